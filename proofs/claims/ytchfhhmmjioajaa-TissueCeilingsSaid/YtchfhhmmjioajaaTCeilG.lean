/- The ceiling of loads: tissue.Ceiling. -/
import Derived.Test.YtchfhhmmjioajaaTRefCeil
import Derived.Test.YtchfhhmmjioajaaMKepts
import Derived.Outline
namespace Go.Proofs.Ytchfhhmmjioajaa
open Go.ChangeShapes Go.WideShapes Go.ChangeAt Go.RowKit
set_option linter.unusedVariables false
set_option linter.unusedSimpArgs false
attribute [local go_sem ↓] Go.wp_at_zero Go.wp_at_succ
/-- The first error of a table with loads and a factor. -/
def ceilE (T : List Cm) (L : List Ld) (f : Int) : Int := firE [loadsE T L, rngE f 0 1000]
theorem cF2 (x y r : Int) (b : Nat) (w : World) (hr : Hid (firE [x, y] = r)) (h0 : w.cell? ⟨b, 0, none⟩ = some (.int .i64 x)) (h1 : w.cell? ⟨b, 1, none⟩ = some (.int .i64 y)) :
    Calls Try.prog 73 #[.slice (some ⟨b, 0, none⟩) 2 2] w fun e w' => e = .returned (.int .i64 r) ∧ w = w' := by
  rw [← hr.out]; exact cFirst2c x y b w h0 h1
theorem Ceiling_bad (T : List Cm) (L : List Ld) (A B : Option Addr) (cap cap' : Nat) (f E : Int) (w : World) (hl : T.length ≤ 1000000) (hl' : L.length ≤ 1000000) (hE : Hid (ceilE T L f = E)) (hz : (E != 0) = true) (HT : Hid (SlCm w A T)) (HL : Hid (SlLd w B L)) :
    Calls Try.prog 52 #[.slice A T.length cap, .slice B L.length cap', .int .i64 f] w fun e w' => e = .returned (.tuple #[.agg #[.int .i64 0, .int .i64 0], .int .i64 E]) ∧ Below w.heap.size w w' := by
  obtain ⟨r, hr⟩ : ∃ z, Hid (loadsE T L = z) := ⟨_, Lib.hid rfl⟩
  have hF : Hid (firE [r, rngE f 0 1000] = E) := by show _ = _; rw [← hr.out]; exact hE.out
  clear hE
  go_enter Try.func52, Try.ntmps52
  go_wp2_with fail
  refine (CheckLoads_is T L A B cap cap' r _ hl hl' hr (HT.out.below (by exact (by (repeat (first | (with_reducible refine Below.drew ?_) | (with_reducible refine below_drewN ?_ _) | (with_reducible refine Below.alloc ?_ (by first | omega | (simp; done) | (simp; omega) | (simp at *; omega)) _) | (with_reducible refine Below.setCell ?_ (by first | omega | (simp; done) | (simp; omega) | (simp at *; omega)) _) | (with_reducible exact Below.refl _ _) | (with_reducible assumption) | (with_reducible refine Below.trans ?_ (Below.mono (by assumption) (by first | omega | (simp; done) | (simp; omega) | (simp at *; omega))))))))) (HL.out.below (by exact (by (repeat (first | (with_reducible refine Below.drew ?_) | (with_reducible refine below_drewN ?_ _) | (with_reducible refine Below.alloc ?_ (by first | omega | (simp; done) | (simp; omega) | (simp at *; omega)) _) | (with_reducible refine Below.setCell ?_ (by first | omega | (simp; done) | (simp; omega) | (simp at *; omega)) _) | (with_reducible exact Below.refl _ _) | (with_reducible assumption) | (with_reducible refine Below.trans ?_ (Below.mono (by assumption) (by first | omega | (simp; done) | (simp; omega) | (simp at *; omega)))))))))).mono ?_
  rintro e v1 ⟨rfl, hb1⟩
  have sz1 := hb1.size
  try simp at sz1
  have a0 : v1.cell? ⟨w.heap.size, 0, none⟩ = some (.int .i64 0) := by rw [(bcell hb1).1 _ _ (by simp)]; simp [go_sem]
  have a1 : v1.cell? ⟨w.heap.size, 1, none⟩ = some (.int .i64 0) := by rw [(bcell hb1).1 _ _ (by simp)]; simp [go_sem]
  have af : ∀ j, v1.frozen? ⟨w.heap.size, j, none⟩ = false := fun j => by rw [(bcell hb1).2 _ _ (by simp)]; simp [go_sem]
  have hB1 : Below w.heap.size w v1 := (by (repeat (first | (with_reducible refine Below.drew ?_) | (with_reducible refine below_drewN ?_ _) | (with_reducible refine Below.alloc ?_ (by first | omega | (simp; done) | (simp; omega) | (simp at *; omega)) _) | (with_reducible refine Below.setCell ?_ (by first | omega | (simp; done) | (simp; omega) | (simp at *; omega)) _) | (with_reducible exact Below.refl _ _) | (with_reducible assumption) | (with_reducible refine Below.trans ?_ (Below.mono (by assumption) (by first | omega | (simp; done) | (simp; omega) | (simp at *; omega)))))))
  have oo1 : w.heap.size < v1.heap.size := by omega
  have oo2 : v1.heap.size ≠ w.heap.size := by omega
  have oo3 : w.heap.size < v1.heap.size + 1 := by omega
  have oo4 : v1.heap.size + 1 ≠ w.heap.size := by omega
  clear hb1
  go_wp2_with (first | (go_at_call 99; ((with_reducible refine (tcheckFactor_any _ _).mono ?_)); rintro e w' ⟨rfl, rfl⟩) | (go_at_call 73; ((with_reducible refine (cF2 _ _ E _ _ hF (by simp [go_sem]) (by simp [go_sem])).mono ?_)); rintro e w' ⟨rfl, rfl⟩))
  refine bodyPost_ret (v := .tuple #[.agg #[.int .i64 0, .int .i64 0], .int .i64 E]) (by simp [results, Try.results52, go_sem, World.cell?_alloc_past, *]) rfl ⟨rfl, ?_⟩
  (repeat (first | (with_reducible refine Below.drew ?_) | (with_reducible refine below_drewN ?_ _) | (with_reducible refine Below.alloc ?_ (by first | omega | (simp; done) | (simp; omega) | (simp at *; omega)) _) | (with_reducible refine Below.setCell ?_ (by first | omega | (simp; done) | (simp; omega) | (simp at *; omega)) _) | (with_reducible exact Below.refl _ _) | (with_reducible assumption) | (with_reducible refine Below.trans ?_ (Below.mono (by assumption) (by first | omega | (simp; done) | (simp; omega) | (simp at *; omega))))))
set_option maxRecDepth 100000 in
set_option maxHeartbeats 4000000 in
theorem Ceiling_good (T : List Cm) (L : List Ld) (A B : Option Addr) (cap cap' : Nat) (f EL EH : Int) (w : World) (hl : T.length ≤ 1000000) (hl' : L.length ≤ 1000000) (hE : Hid (ceilE T L f = 0)) (HFit : Hid (Fit T L)) (f0 : 0 ≤ f) (f1 : f ≤ 1000) (hC : Hid (ceilR f T L 0 0 = (EL, EH))) (HT : Hid (SlCm w A T)) (HL : Hid (SlLd w B L)) :
    Calls Try.prog 52 #[.slice A T.length cap, .slice B L.length cap', .int .i64 f] w fun e w' => e = .returned (.tuple #[.agg #[.int .i64 EL, .int .i64 EH], .int .i64 0]) ∧ Below w.heap.size w w' := by
  have hlen : T.length ≤ L.length := by rw [HFit.out.len]; exact Nat.le_refl _
  have hmost := HFit.out.most
  obtain ⟨r, hr⟩ : ∃ z, Hid (loadsE T L = z) := ⟨_, Lib.hid rfl⟩
  have hF : Hid (firE [r, rngE f 0 1000] = 0) := by show _ = _; rw [← hr.out]; exact hE.out
  clear hE
  go_enter Try.func52, Try.ntmps52
  go_wp2_with fail
  refine (CheckLoads_is T L A B cap cap' r _ hl hl' hr (HT.out.below (by exact (by (repeat (first | (with_reducible refine Below.drew ?_) | (with_reducible refine below_drewN ?_ _) | (with_reducible refine Below.alloc ?_ (by first | omega | (simp; done) | (simp; omega) | (simp at *; omega)) _) | (with_reducible refine Below.setCell ?_ (by first | omega | (simp; done) | (simp; omega) | (simp at *; omega)) _) | (with_reducible exact Below.refl _ _) | (with_reducible assumption) | (with_reducible refine Below.trans ?_ (Below.mono (by assumption) (by first | omega | (simp; done) | (simp; omega) | (simp at *; omega))))))))) (HL.out.below (by exact (by (repeat (first | (with_reducible refine Below.drew ?_) | (with_reducible refine below_drewN ?_ _) | (with_reducible refine Below.alloc ?_ (by first | omega | (simp; done) | (simp; omega) | (simp at *; omega)) _) | (with_reducible refine Below.setCell ?_ (by first | omega | (simp; done) | (simp; omega) | (simp at *; omega)) _) | (with_reducible exact Below.refl _ _) | (with_reducible assumption) | (with_reducible refine Below.trans ?_ (Below.mono (by assumption) (by first | omega | (simp; done) | (simp; omega) | (simp at *; omega)))))))))).mono ?_
  rintro e v1 ⟨rfl, hb1⟩
  have sz1 := hb1.size
  try simp at sz1
  have a0 : v1.cell? ⟨w.heap.size, 0, none⟩ = some (.int .i64 0) := by rw [(bcell hb1).1 _ _ (by simp)]; simp [go_sem]
  have a1 : v1.cell? ⟨w.heap.size, 1, none⟩ = some (.int .i64 0) := by rw [(bcell hb1).1 _ _ (by simp)]; simp [go_sem]
  have af : ∀ j, v1.frozen? ⟨w.heap.size, j, none⟩ = false := fun j => by rw [(bcell hb1).2 _ _ (by simp)]; simp [go_sem]
  have hB1 : Below w.heap.size w v1 := (by (repeat (first | (with_reducible refine Below.drew ?_) | (with_reducible refine below_drewN ?_ _) | (with_reducible refine Below.alloc ?_ (by first | omega | (simp; done) | (simp; omega) | (simp at *; omega)) _) | (with_reducible refine Below.setCell ?_ (by first | omega | (simp; done) | (simp; omega) | (simp at *; omega)) _) | (with_reducible exact Below.refl _ _) | (with_reducible assumption) | (with_reducible refine Below.trans ?_ (Below.mono (by assumption) (by first | omega | (simp; done) | (simp; omega) | (simp at *; omega)))))))
  have oo1 : w.heap.size < v1.heap.size := by omega
  have oo2 : v1.heap.size ≠ w.heap.size := by omega
  have oo3 : w.heap.size < v1.heap.size + 1 := by omega
  have oo4 : v1.heap.size + 1 ≠ w.heap.size := by omega
  clear hb1
  go_wp2_with (first | (go_at_call 99; ((with_reducible refine (tcheckFactor_any _ _).mono ?_)); rintro e w' ⟨rfl, rfl⟩) | (go_at_call 73; ((with_reducible refine (cF2 _ _ 0 _ _ hF (by simp [go_sem]) (by simp [go_sem])).mono ?_)); rintro e w' ⟨rfl, rfl⟩))
  go_loopw [27] (fun i wr => ∃ (k : Nat) (lo hi : Int), k ≤ T.length ∧ i = .int .i64 k ∧ Hid (ceilR f (T.drop k) (L.drop k) lo hi = (EL, EH)) ∧ wr.cell? ⟨v1.heap.size + 1, 0, none⟩ = some (.int .i64 lo) ∧ wr.cell? ⟨v1.heap.size + 1, 1, none⟩ = some (.int .i64 hi) ∧ (∀ j, wr.frozen? ⟨v1.heap.size + 1, j, none⟩ = false) ∧ wr.cell? ⟨w.heap.size, 0, none⟩ = some (.int .i64 0) ∧ wr.cell? ⟨w.heap.size, 1, none⟩ = some (.int .i64 0) ∧ (∀ j, wr.frozen? ⟨w.heap.size, j, none⟩ = false) ∧ v1.heap.size + 2 ≤ wr.heap.size ∧ Below w.heap.size w wr) (fun i _ => T.length - (intOf i).toNat)
  case atStart => exact ⟨0, 0, 0, by omega, rfl, hC, by simp [go_sem, World.cell?_alloc_past, *], by simp [go_sem, World.cell?_alloc_past, *], by intro j; simp [go_sem, *], by simp [go_sem, World.cell?_alloc_past, *], by simp [go_sem, World.cell?_alloc_past, *], by intro j; simp [go_sem, *], by first | omega | (simp; done) | (simp; omega), (by (repeat (first | (with_reducible refine Below.drew ?_) | (with_reducible refine below_drewN ?_ _) | (with_reducible refine Below.alloc ?_ (by first | omega | (simp; done) | (simp; omega) | (simp at *; omega)) _) | (with_reducible refine Below.setCell ?_ (by first | omega | (simp; done) | (simp; omega) | (simp at *; omega)) _) | (with_reducible exact Below.refl _ _) | (with_reducible assumption) | (with_reducible refine Below.trans ?_ (Below.mono (by assumption) (by first | omega | (simp; done) | (simp; omega) | (simp at *; omega)))))))⟩
  case round =>
    clear hC a0 a1 af hB1
    obtain ⟨k, lo, hi, hk, rfl, hx, z0, z1, zf, z2, z3, zg, sz, hB⟩ := hrel
    by_cases hkl : k < T.length
    · have hkl2 : (k : Int) < T.length := by omega
      have hkl' : k < L.length := by omega
      have hkl3 : (k : Int) < L.length := by omega
      rcases (HT.out.below hB : SlCm wr A T) with hnil | ⟨pb, po, hAA, plt, PT⟩
      · rw [hnil] at hkl; simp at hkl
      rcases (HL.out.below hB : SlLd wr B L) with hnil | ⟨lb, lo', hBB, llt, PL⟩
      · rw [hnil] at hkl'; simp at hkl'
      subst hAA hBB
      obtain ⟨c0, c1, c2, c3⟩ := PT k hkl
      obtain ⟨d0, d1, d2, d3⟩ := PL k hkl'
      obtain ⟨q1, q2, q3, q4⟩ := cmp_ok (HFit.out.cm k hkl)
      obtain ⟨q5, q6⟩ := lodE_ok (HFit.out.ld k hkl')
      have hst := ceilR_drop (f := f) hkl hkl' lo hi
      rw [hx.out] at hst
      obtain ⟨n, hn⟩ : ∃ z, Hid (T[k].n = z) := ⟨T[k].n, rfl⟩
      obtain ⟨hz, hh⟩ : ∃ z, Hid (T[k].h = z) := ⟨T[k].h, rfl⟩
      obtain ⟨b, hb⟩ : ∃ z, Hid (T[k].b = z) := ⟨T[k].b, rfl⟩
      obtain ⟨s, hs⟩ : ∃ z, Hid (T[k].s = z) := ⟨T[k].s, rfl⟩
      obtain ⟨la, hla⟩ : ∃ z, Hid (L[k].a = z) := ⟨L[k].a, rfl⟩
      obtain ⟨lb', hlb⟩ : ∃ z, Hid (L[k].b = z) := ⟨L[k].b, rfl⟩
      obtain ⟨lc, hlc⟩ : ∃ z, Hid (L[k].c = z) := ⟨L[k].c, rfl⟩
      obtain ⟨ld', hld⟩ : ∃ z, Hid (L[k].d = z) := ⟨L[k].d, rfl⟩
      rw [hn.out] at c0
      rw [hh.out] at c1
      rw [hb.out] at c2 q3 hst
      rw [hs.out] at c3 q4 hst
      rw [hla.out] at d0 q5 hst
      rw [hlb.out] at d1 q5 hst
      rw [hlc.out] at d2 q6 hst
      rw [hld.out] at d3 q6 hst
      obtain ⟨P, hP⟩ : ∃ z, Hid (f * 1000 * b = z) := ⟨_, rfl⟩
      obtain ⟨Q, hQ⟩ : ∃ z, Hid (1000000 + f * (s - 1000) = z) := ⟨_, rfl⟩
      obtain ⟨X, hX⟩ : ∃ z, Hid (la + lc = z) := ⟨_, rfl⟩
      obtain ⟨Y, hY⟩ : ∃ z, Hid (lb' + ld' = z) := ⟨_, rfl⟩
      have bb := base_bd f0 f1 q3.1 q3.2
      have ss := slope_bd f0 f1 q4.1 q4.2
      rw [hP.out] at bb
      rw [hQ.out] at ss
      have x0 : 0 ≤ X ∧ X ≤ 200000000 := by rw [← hX.out]; omega
      have y0 : 0 ≤ Y ∧ Y ≤ 200000000 := by rw [← hY.out]; omega
      rw [hP.out, hQ.out, hX.out, hY.out] at hst
      obtain ⟨M0, hM0⟩ : ∃ z, Hid (lstP P Q X = z) := ⟨_, Lib.hid rfl⟩
      obtain ⟨M1, hM1⟩ : ∃ z, Hid (lstP P Q Y = z) := ⟨_, Lib.hid rfl⟩
      rw [hM0.out, hM1.out] at hst
      have HC0 := Lib.hid (fun w => least_x P Q X M0 w bb ⟨by omega, ss.2⟩ x0 hM0.out)
      have HC1 := Lib.hid (fun w => least_x P Q Y M1 w bb ⟨by omega, ss.2⟩ y0 hM1.out)
      have HL1 := Lib.hid (fun w => limitOf_x n hz b s f P Q w ⟨f0, f1⟩ q3 q4 hP.out hQ.out)
      have HE1 := Lib.hid (fun w => endsOf_x la lb' lc ld' X Y w ⟨by omega, by omega⟩ ⟨by omega, by omega⟩ ⟨by omega, by omega⟩ ⟨by omega, by omega⟩ hX.out hY.out)
      have HST := Lib.hid hst
      clear hst hx PT PL hn hh hb hs hla hlb hlc hld hP hQ hX hY hM0 hM1 q1 q2 q3 q4 q5 q6
      go_upto_region 8 with (fail)
      generalize hw4 : wr.alloc (.cells #[.int .i64 n, .int .i64 hz, .int .i64 b, .int .i64 s] 78) = w4
      have hb4 : Below wr.heap.size wr w4 := by rw [← hw4]; exact (Below.refl _ _).alloc (Nat.le_refl _) _
      have e0 : w4.cell? ⟨wr.heap.size, 0, none⟩ = some (.int .i64 n) := by rw [← hw4]; simp [go_sem]
      have e1 : w4.cell? ⟨wr.heap.size, 1, none⟩ = some (.int .i64 hz) := by rw [← hw4]; simp [go_sem]
      have e2 : w4.cell? ⟨wr.heap.size, 2, none⟩ = some (.int .i64 b) := by rw [← hw4]; simp [go_sem]
      have e3 : w4.cell? ⟨wr.heap.size, 3, none⟩ = some (.int .i64 s) := by rw [← hw4]; simp [go_sem]
      have l11 : wr.heap.size < w4.heap.size := by rw [← hw4]; simp
      have hB4 : Below w.heap.size w w4 := hB.trans (hb4.mono hB.size)
      have mq : lb < w4.heap.size := by omega
      replace d0 := (hb4.cell (p := ⟨lb, lo' + k * 4, none⟩) llt).trans d0
      replace d1 := (hb4.cell (p := ⟨lb, lo' + k * 4 + 1, none⟩) llt).trans d1
      replace d2 := (hb4.cell (p := ⟨lb, lo' + k * 4 + 2, none⟩) llt).trans d2
      replace d3 := (hb4.cell (p := ⟨lb, lo' + k * 4 + 3, none⟩) llt).trans d3
      have lz : v1.heap.size + 1 < wr.heap.size := by omega
      have lw : w.heap.size < wr.heap.size := by omega
      have G9 := Lib.hid (And.intro ((hb4.cell (p := ⟨v1.heap.size + 1, 0, none⟩) lz).trans z0) (And.intro ((hb4.cell (p := ⟨v1.heap.size + 1, 1, none⟩) lz).trans z1) (And.intro ((hb4.cell (p := ⟨w.heap.size, 0, none⟩) lw).trans z2) ((hb4.cell (p := ⟨w.heap.size, 1, none⟩) lw).trans z3))))
      have F9 := Lib.hid (And.intro (fun j => (hb4.frozen (p := ⟨v1.heap.size + 1, j, none⟩) lz).trans (zf j)) (fun j => (hb4.frozen (p := ⟨w.heap.size, j, none⟩) lw).trans (zg j)))
      have lz4 : v1.heap.size + 1 < w4.heap.size := by omega
      have lw4 : w.heap.size < w4.heap.size := by omega
      clear hw4 hb4 hB c0 c1 c2 c3 z0 z1 zf z2 z3 zg
      go_cut [12, 13, 27] from 27 to 56 (fun s12 s13 s27 wx => s27 = .int .i64 k ∧ R8 w4 P Q X Y s12 s13 wx)
      case first =>
        have HS : ∀ w', Below w4.heap.size w4 w' → w'.cell? ⟨wr.heap.size, 0, none⟩ = some (.int .i64 n) ∧ w'.cell? ⟨wr.heap.size, 1, none⟩ = some (.int .i64 hz) ∧ w'.cell? ⟨wr.heap.size, 2, none⟩ = some (.int .i64 b) ∧ w'.cell? ⟨wr.heap.size, 3, none⟩ = some (.int .i64 s) ∧ w'.cell? ⟨lb, lo' + k * 4, none⟩ = some (.int .i64 la) ∧ w'.cell? ⟨lb, lo' + k * 4 + 1, none⟩ = some (.int .i64 lb') ∧ w'.cell? ⟨lb, lo' + k * 4 + 2, none⟩ = some (.int .i64 lc) ∧ w'.cell? ⟨lb, lo' + k * 4 + 3, none⟩ = some (.int .i64 ld') := fun w' hb => ⟨(hb.cell (p := ⟨wr.heap.size, 0, none⟩) l11).trans e0, (hb.cell (p := ⟨wr.heap.size, 1, none⟩) l11).trans e1, (hb.cell (p := ⟨wr.heap.size, 2, none⟩) l11).trans e2, (hb.cell (p := ⟨wr.heap.size, 3, none⟩) l11).trans e3, (hb.cell (p := ⟨lb, lo' + k * 4, none⟩) mq).trans d0, (hb.cell (p := ⟨lb, lo' + k * 4 + 1, none⟩) mq).trans d1, (hb.cell (p := ⟨lb, lo' + k * 4 + 2, none⟩) mq).trans d2, (hb.cell (p := ⟨lb, lo' + k * 4 + 3, none⟩) mq).trans d3⟩
        have HS' := Lib.hid HS
        clear HS
        refine wp_region_held_drew (S := (fun w' => w'.cell? ⟨wr.heap.size, 0, none⟩ = some (.int .i64 n) ∧ w'.cell? ⟨wr.heap.size, 1, none⟩ = some (.int .i64 hz) ∧ w'.cell? ⟨wr.heap.size, 2, none⟩ = some (.int .i64 b) ∧ w'.cell? ⟨wr.heap.size, 3, none⟩ = some (.int .i64 s) ∧ w'.cell? ⟨lb, lo' + k * 4, none⟩ = some (.int .i64 la) ∧ w'.cell? ⟨lb, lo' + k * 4 + 1, none⟩ = some (.int .i64 lb') ∧ w'.cell? ⟨lb, lo' + k * 4 + 2, none⟩ = some (.int .i64 lc) ∧ w'.cell? ⟨lb, lo' + k * 4 + 3, none⟩ = some (.int .i64 ld'))) (by kernel_rfl) (by exact HS'.out _ (Below.refl w4.heap.size w4).drew) (fun hHeld => ?_)
        refine wpAnyH_take (i := 0) (oi := ⟨some 32, _, _, _, _, _⟩) (v := ?_) rfl (by kernel_rfl) (by kernel_rfl) (by kernel_rfl) (fun _ _ _ h => h) (Or.inl ⟨by kernel_rfl, ?_⟩) (by assumption) ?_
        rotate_left
        · (intro w hSw; (try dsimp only at hSw); go_simp; all_goals with_reducible rfl)
        try simp only [Act.put, List.setIfInBounds_toArray, List.set_cons_zero, List.set_cons_succ]
        refine wpAnyH_take (i := 1) (oi := ⟨some 33, _, _, _, _, _⟩) (v := ?_) rfl (by kernel_rfl) (by kernel_rfl) (by kernel_rfl) (fun _ _ _ h => h) (Or.inl ⟨by kernel_rfl, ?_⟩) (by assumption) ?_
        rotate_left
        · (intro w hSw; (try dsimp only at hSw); go_simp; all_goals with_reducible rfl)
        try simp only [Act.put, List.setIfInBounds_toArray, List.set_cons_zero, List.set_cons_succ]
        refine wpAnyH_take (i := 3) (oi := ⟨some 35, _, _, _, _, _⟩) (v := ?_) rfl (by kernel_rfl) (by kernel_rfl) (by kernel_rfl) (fun _ _ _ h => h) (Or.inl ⟨by kernel_rfl, ?_⟩) (by assumption) ?_
        rotate_left
        · (intro w hSw; (try dsimp only at hSw); go_simp; all_goals with_reducible rfl)
        try simp only [Act.put, List.setIfInBounds_toArray, List.set_cons_zero, List.set_cons_succ]
        refine wpAnyH_take (i := 4) (oi := ⟨some 36, _, _, _, _, _⟩) (v := ?_) rfl (by kernel_rfl) (by kernel_rfl) (by kernel_rfl) (fun _ _ _ h => h) (Or.inl ⟨by kernel_rfl, ?_⟩) (by assumption) ?_
        rotate_left
        · (intro w hSw; (try dsimp only at hSw); go_simp; all_goals with_reducible rfl)
        try simp only [Act.put, List.setIfInBounds_toArray, List.set_cons_zero, List.set_cons_succ]
        refine wpAnyH_take (i := 5) (oi := ⟨some 37, _, _, _, _, _⟩) (v := ?_) rfl (by kernel_rfl) (by kernel_rfl) (by kernel_rfl) (fun _ _ _ h => h) (Or.inl ⟨by kernel_rfl, ?_⟩) (by assumption) ?_
        rotate_left
        · (intro w hSw; (try dsimp only at hSw); go_simp; all_goals with_reducible rfl)
        try simp only [Act.put, List.setIfInBounds_toArray, List.set_cons_zero, List.set_cons_succ]
        refine wpAnyH_take (i := 6) (oi := ⟨some 38, _, _, _, _, _⟩) (v := ?_) rfl (by kernel_rfl) (by kernel_rfl) (by kernel_rfl) (fun _ _ _ h => h) (Or.inl ⟨by kernel_rfl, ?_⟩) (by assumption) ?_
        rotate_left
        · (intro w hSw; (try dsimp only at hSw); go_simp; all_goals with_reducible rfl)
        try simp only [Act.put, List.setIfInBounds_toArray, List.set_cons_zero, List.set_cons_succ]
        have hB0 : Below w4.heap.size w4 w4.drew := (Below.refl w4.heap.size w4).drew
        generalize hdr : w4.drew = u0 at *
        clear hdr
        refine wpAnyH_ready (rs := [2, 8, 9]) (by kernel_rfl) (by simp) ?_
        refine AllReadyH.cons rfl (fun K hK => ?_) (AllReadyH.cons rfl (fun K hK => ?_) (AllReadyH.cons rfl (fun K hK => ?_) (AllReadyH.nil)))
        · skip
          go_simp
          refine (HL1.out _).mono ?_
          rintro e u1 ⟨rfl, hb1⟩
          have hB1 : Below w4.heap.size w4 u1 := (hB0).trans (hb1.mono (hB0).size)
          go_wp2_with fail
          refine hK.out _ _ (HS'.out _ (hB1)) (fun hHeld => ?_)
          clear hK K
          try simp only [Act.put, List.setIfInBounds_toArray, List.set_cons_zero, List.set_cons_succ]
          refine wpAnyH_ready (rs := [7, 8, 9]) (by kernel_rfl) (by simp) ?_
          refine AllReadyH.cons rfl (fun K hK => ?_) (AllReadyH.cons rfl (fun K hK => ?_) (AllReadyH.cons rfl (fun K hK => ?_) (AllReadyH.nil)))
          · skip
            go_simp
            refine (HE1.out _).mono ?_
            rintro e u2 ⟨rfl, hb2⟩
            have hB2 : Below w4.heap.size w4 u2 := (hB1).trans (hb2.mono (hB1).size)
            go_wp2_with fail
            refine hK.out _ _ (HS'.out _ (hB2)) (fun hHeld => ?_)
            clear hK K
            try simp only [Act.put, List.setIfInBounds_toArray, List.set_cons_zero, List.set_cons_succ]
            refine wpAnyH_ready (rs := [8, 9]) (by kernel_rfl) (by simp) ?_
            refine AllReadyH.cons rfl (fun K hK => ?_) (AllReadyH.cons rfl (fun K hK => ?_) (AllReadyH.nil))
            · skip
              go_simp
              go_wp2_with fail
              refine hK.out _ _ (HS'.out _ ((hB2).alloc (hB2).size _)) (fun hHeld => ?_)
              clear hK K
              try simp only [Act.put, List.setIfInBounds_toArray, List.set_cons_zero, List.set_cons_succ]
              generalize hq3 : u2.alloc (.cells #[.int .i64 0, .int .i64 0] 145) = u3
              have hb3 : Below u2.heap.size u2 u3 := by rw [← hq3]; exact (Below.refl _ _).alloc (Nat.le_refl _) _
              have hB3 : Below w4.heap.size w4 u3 := (hB2).trans (hb3.mono (hB2).size)
              have h8_3 : (∀ i, i < 2 → ∃ v, u3.cell? ⟨u2.heap.size, i, none⟩ = some v) ∧ (∀ j, u3.frozen? ⟨u2.heap.size, j, none⟩ = false) := by rw [← hq3]; exact new2_is u2 _ _ _
              have q8_3 : u2.heap.size < u3.heap.size := by rw [← hq3]; simp
              have g8 : w4.heap.size ≤ u2.heap.size := (hB2).size
              clear hq3
              refine wpAnyH_ready (rs := [9]) (by kernel_rfl) (by simp) ?_
              refine AllReadyH.cons rfl (fun K hK => ?_) (AllReadyH.nil)
              go_simp
              go_wp2_with fail
              refine hK.out _ _ (HS'.out _ ((hB3).alloc (hB3).size _)) (fun hHeld => ?_)
              clear hK K
              try simp only [Act.put, List.setIfInBounds_toArray, List.set_cons_zero, List.set_cons_succ]
              generalize hq4 : u3.alloc (.cells #[.int .i64 0, .int .i64 0] 32) = u4
              have hb4 : Below u3.heap.size u3 u4 := by rw [← hq4]; exact (Below.refl _ _).alloc (Nat.le_refl _) _
              have hB4 : Below w4.heap.size w4 u4 := (hB3).trans (hb4.mono (hB3).size)
              have h8_4 := has2_below (b := u2.heap.size) h8_3 hb4 q8_3
              have q8_4 : u2.heap.size < u4.heap.size := Nat.lt_of_lt_of_le q8_3 hb4.size
              have h9_4 : (∀ i, i < 2 → ∃ v, u4.cell? ⟨u3.heap.size, i, none⟩ = some v) ∧ (∀ j, u4.frozen? ⟨u3.heap.size, j, none⟩ = false) := by rw [← hq4]; exact new2_is u3 _ _ _
              have q9_4 : u3.heap.size < u4.heap.size := by rw [← hq4]; simp
              have g9 : w4.heap.size ≤ u3.heap.size := (hB3).size
              clear hq4
              obtain ⟨⟨ev0, e0⟩, ⟨ev1, e1⟩⟩ := And.intro (h8_4.1 0 (by omega)) (h8_4.1 1 (by omega))
              have ef := h8_4.2
              refine wpAnyH_ready (rs := [10]) (by kernel_rfl) (by simp) ?_
              refine AllReadyH.cons rfl (fun K hK => ?_) (AllReadyH.nil)
              go_simp
              go_wp2_with fail
              refine hK.out _ _ (HS'.out _ (set2_below hB4 g8)) (fun hHeld => ?_)
              clear hK K
              try simp only [Act.put, List.setIfInBounds_toArray, List.set_cons_zero, List.set_cons_succ]
              have HH := set2_is (X := u4) (b := u2.heap.size) (.int .i64 P) (.int .i64 Q) h8_4.1 h8_4.2
              unfold set2 at HH
              have hBs : Below w4.heap.size w4 (set2 u4 u2.heap.size (.int .i64 P) (.int .i64 Q)) := set2_below hB4 g8
              unfold set2 at hBs
              generalize hs1 : (u4.setCell ⟨u2.heap.size, 0, none⟩ (.int .i64 P)).setCell ⟨u2.heap.size, 1, none⟩ (.int .i64 Q) = x1 at *
              obtain ⟨t0, t1, t5, t6, t7, t8⟩ := HH
              have hnn : u2.heap.size ≠ u3.heap.size := by omega
              have hn2 : u3.heap.size ≠ u2.heap.size := by omega
              have hs13 : (∀ i, i < 2 → ∃ v, x1.cell? ⟨u3.heap.size, i, none⟩ = some v) ∧ (∀ j, x1.frozen? ⟨u3.heap.size, j, none⟩ = false) := ⟨fun i hi => by obtain ⟨v, hv⟩ := h9_4.1 i hi; exact ⟨v, (t6 _ _ hn2).trans hv⟩, fun j => (World.frozen?_of_block (a := ⟨u3.heap.size, j, none⟩) (t7 _ hn2)).trans (h9_4.2 j)⟩
              obtain ⟨⟨av0, a0⟩, ⟨av1, a1⟩⟩ := And.intro (hs13.1 0 (by omega)) (hs13.1 1 (by omega))
              have af := hs13.2
              have k12 : u2.heap.size < x1.heap.size := by rw [t8]; exact q8_4
              have k13 : u3.heap.size < x1.heap.size := by rw [t8]; exact q9_4
              have T0 := Lib.hid t0
              have T1 := Lib.hid t1
              clear t0 t1 t5 t6 t7 t8 hs1 e0 e1 ef
              refine wpAnyH_ready (rs := [11]) (by kernel_rfl) (by simp) ?_
              refine AllReadyH.cons rfl (fun K hK => ?_) (AllReadyH.nil)
              go_simp
              go_wp2_with fail
              refine hK.out _ _ (HS'.out _ (set2_below hBs g9)) (fun hHeld => ?_)
              clear hK K
              try simp only [Act.put, List.setIfInBounds_toArray, List.set_cons_zero, List.set_cons_succ]
              refine wpAnyH_done (by kernel_rfl) ?_ _
              go_wp2_with fail
              go_meet
              exact ⟨rfl, R8.of hBs g8 k12 g9 k13 hnn T0.out T1.out hs13⟩
            · skip
              go_simp
              go_wp2_with fail
              refine hK.out _ _ (HS'.out _ ((hB2).alloc (hB2).size _)) (fun hHeld => ?_)
              clear hK K
              try simp only [Act.put, List.setIfInBounds_toArray, List.set_cons_zero, List.set_cons_succ]
              generalize hq3 : u2.alloc (.cells #[.int .i64 0, .int .i64 0] 32) = u3
              have hb3 : Below u2.heap.size u2 u3 := by rw [← hq3]; exact (Below.refl _ _).alloc (Nat.le_refl _) _
              have hB3 : Below w4.heap.size w4 u3 := (hB2).trans (hb3.mono (hB2).size)
              have h9_3 : (∀ i, i < 2 → ∃ v, u3.cell? ⟨u2.heap.size, i, none⟩ = some v) ∧ (∀ j, u3.frozen? ⟨u2.heap.size, j, none⟩ = false) := by rw [← hq3]; exact new2_is u2 _ _ _
              have q9_3 : u2.heap.size < u3.heap.size := by rw [← hq3]; simp
              have g9 : w4.heap.size ≤ u2.heap.size := (hB2).size
              clear hq3
              refine wpAnyH_ready (rs := [8]) (by kernel_rfl) (by simp) ?_
              refine AllReadyH.cons rfl (fun K hK => ?_) (AllReadyH.nil)
              go_simp
              go_wp2_with fail
              refine hK.out _ _ (HS'.out _ ((hB3).alloc (hB3).size _)) (fun hHeld => ?_)
              clear hK K
              try simp only [Act.put, List.setIfInBounds_toArray, List.set_cons_zero, List.set_cons_succ]
              generalize hq4 : u3.alloc (.cells #[.int .i64 0, .int .i64 0] 145) = u4
              have hb4 : Below u3.heap.size u3 u4 := by rw [← hq4]; exact (Below.refl _ _).alloc (Nat.le_refl _) _
              have hB4 : Below w4.heap.size w4 u4 := (hB3).trans (hb4.mono (hB3).size)
              have h9_4 := has2_below (b := u2.heap.size) h9_3 hb4 q9_3
              have q9_4 : u2.heap.size < u4.heap.size := Nat.lt_of_lt_of_le q9_3 hb4.size
              have h8_4 : (∀ i, i < 2 → ∃ v, u4.cell? ⟨u3.heap.size, i, none⟩ = some v) ∧ (∀ j, u4.frozen? ⟨u3.heap.size, j, none⟩ = false) := by rw [← hq4]; exact new2_is u3 _ _ _
              have q8_4 : u3.heap.size < u4.heap.size := by rw [← hq4]; simp
              have g8 : w4.heap.size ≤ u3.heap.size := (hB3).size
              clear hq4
              obtain ⟨⟨ev0, e0⟩, ⟨ev1, e1⟩⟩ := And.intro (h8_4.1 0 (by omega)) (h8_4.1 1 (by omega))
              have ef := h8_4.2
              refine wpAnyH_ready (rs := [10]) (by kernel_rfl) (by simp) ?_
              refine AllReadyH.cons rfl (fun K hK => ?_) (AllReadyH.nil)
              go_simp
              go_wp2_with fail
              refine hK.out _ _ (HS'.out _ (set2_below hB4 g8)) (fun hHeld => ?_)
              clear hK K
              try simp only [Act.put, List.setIfInBounds_toArray, List.set_cons_zero, List.set_cons_succ]
              have HH := set2_is (X := u4) (b := u3.heap.size) (.int .i64 P) (.int .i64 Q) h8_4.1 h8_4.2
              unfold set2 at HH
              have hBs : Below w4.heap.size w4 (set2 u4 u3.heap.size (.int .i64 P) (.int .i64 Q)) := set2_below hB4 g8
              unfold set2 at hBs
              generalize hs1 : (u4.setCell ⟨u3.heap.size, 0, none⟩ (.int .i64 P)).setCell ⟨u3.heap.size, 1, none⟩ (.int .i64 Q) = x1 at *
              obtain ⟨t0, t1, t5, t6, t7, t8⟩ := HH
              have hnn : u3.heap.size ≠ u2.heap.size := by omega
              have hn2 : u2.heap.size ≠ u3.heap.size := by omega
              have hs13 : (∀ i, i < 2 → ∃ v, x1.cell? ⟨u2.heap.size, i, none⟩ = some v) ∧ (∀ j, x1.frozen? ⟨u2.heap.size, j, none⟩ = false) := ⟨fun i hi => by obtain ⟨v, hv⟩ := h9_4.1 i hi; exact ⟨v, (t6 _ _ hn2).trans hv⟩, fun j => (World.frozen?_of_block (a := ⟨u2.heap.size, j, none⟩) (t7 _ hn2)).trans (h9_4.2 j)⟩
              obtain ⟨⟨av0, a0⟩, ⟨av1, a1⟩⟩ := And.intro (hs13.1 0 (by omega)) (hs13.1 1 (by omega))
              have af := hs13.2
              have k12 : u3.heap.size < x1.heap.size := by rw [t8]; exact q8_4
              have k13 : u2.heap.size < x1.heap.size := by rw [t8]; exact q9_4
              have T0 := Lib.hid t0
              have T1 := Lib.hid t1
              clear t0 t1 t5 t6 t7 t8 hs1 e0 e1 ef
              refine wpAnyH_ready (rs := [11]) (by kernel_rfl) (by simp) ?_
              refine AllReadyH.cons rfl (fun K hK => ?_) (AllReadyH.nil)
              go_simp
              go_wp2_with fail
              refine hK.out _ _ (HS'.out _ (set2_below hBs g9)) (fun hHeld => ?_)
              clear hK K
              try simp only [Act.put, List.setIfInBounds_toArray, List.set_cons_zero, List.set_cons_succ]
              refine wpAnyH_done (by kernel_rfl) ?_ _
              go_wp2_with fail
              go_meet
              exact ⟨rfl, R8.of hBs g8 k12 g9 k13 hnn T0.out T1.out hs13⟩
          · skip
            go_simp
            go_wp2_with fail
            refine hK.out _ _ (HS'.out _ ((hB1).alloc (hB1).size _)) (fun hHeld => ?_)
            clear hK K
            try simp only [Act.put, List.setIfInBounds_toArray, List.set_cons_zero, List.set_cons_succ]
            generalize hq2 : u1.alloc (.cells #[.int .i64 0, .int .i64 0] 145) = u2
            have hb2 : Below u1.heap.size u1 u2 := by rw [← hq2]; exact (Below.refl _ _).alloc (Nat.le_refl _) _
            have hB2 : Below w4.heap.size w4 u2 := (hB1).trans (hb2.mono (hB1).size)
            have h8_2 : (∀ i, i < 2 → ∃ v, u2.cell? ⟨u1.heap.size, i, none⟩ = some v) ∧ (∀ j, u2.frozen? ⟨u1.heap.size, j, none⟩ = false) := by rw [← hq2]; exact new2_is u1 _ _ _
            have q8_2 : u1.heap.size < u2.heap.size := by rw [← hq2]; simp
            have g8 : w4.heap.size ≤ u1.heap.size := (hB1).size
            clear hq2
            refine wpAnyH_ready (rs := [7, 9]) (by kernel_rfl) (by simp) ?_
            refine AllReadyH.cons rfl (fun K hK => ?_) (AllReadyH.cons rfl (fun K hK => ?_) (AllReadyH.nil))
            · skip
              go_simp
              refine (HE1.out _).mono ?_
              rintro e u3 ⟨rfl, hb3⟩
              have hB3 : Below w4.heap.size w4 u3 := (hB2).trans (hb3.mono (hB2).size)
              have h8_3 := has2_below (b := u1.heap.size) h8_2 hb3 q8_2
              have q8_3 : u1.heap.size < u3.heap.size := Nat.lt_of_lt_of_le q8_2 hb3.size
              go_wp2_with fail
              refine hK.out _ _ (HS'.out _ (hB3)) (fun hHeld => ?_)
              clear hK K
              try simp only [Act.put, List.setIfInBounds_toArray, List.set_cons_zero, List.set_cons_succ]
              refine wpAnyH_ready (rs := [9]) (by kernel_rfl) (by simp) ?_
              refine AllReadyH.cons rfl (fun K hK => ?_) (AllReadyH.nil)
              go_simp
              go_wp2_with fail
              refine hK.out _ _ (HS'.out _ ((hB3).alloc (hB3).size _)) (fun hHeld => ?_)
              clear hK K
              try simp only [Act.put, List.setIfInBounds_toArray, List.set_cons_zero, List.set_cons_succ]
              generalize hq4 : u3.alloc (.cells #[.int .i64 0, .int .i64 0] 32) = u4
              have hb4 : Below u3.heap.size u3 u4 := by rw [← hq4]; exact (Below.refl _ _).alloc (Nat.le_refl _) _
              have hB4 : Below w4.heap.size w4 u4 := (hB3).trans (hb4.mono (hB3).size)
              have h8_4 := has2_below (b := u1.heap.size) h8_3 hb4 q8_3
              have q8_4 : u1.heap.size < u4.heap.size := Nat.lt_of_lt_of_le q8_3 hb4.size
              have h9_4 : (∀ i, i < 2 → ∃ v, u4.cell? ⟨u3.heap.size, i, none⟩ = some v) ∧ (∀ j, u4.frozen? ⟨u3.heap.size, j, none⟩ = false) := by rw [← hq4]; exact new2_is u3 _ _ _
              have q9_4 : u3.heap.size < u4.heap.size := by rw [← hq4]; simp
              have g9 : w4.heap.size ≤ u3.heap.size := (hB3).size
              clear hq4
              obtain ⟨⟨ev0, e0⟩, ⟨ev1, e1⟩⟩ := And.intro (h8_4.1 0 (by omega)) (h8_4.1 1 (by omega))
              have ef := h8_4.2
              refine wpAnyH_ready (rs := [10]) (by kernel_rfl) (by simp) ?_
              refine AllReadyH.cons rfl (fun K hK => ?_) (AllReadyH.nil)
              go_simp
              go_wp2_with fail
              refine hK.out _ _ (HS'.out _ (set2_below hB4 g8)) (fun hHeld => ?_)
              clear hK K
              try simp only [Act.put, List.setIfInBounds_toArray, List.set_cons_zero, List.set_cons_succ]
              have HH := set2_is (X := u4) (b := u1.heap.size) (.int .i64 P) (.int .i64 Q) h8_4.1 h8_4.2
              unfold set2 at HH
              have hBs : Below w4.heap.size w4 (set2 u4 u1.heap.size (.int .i64 P) (.int .i64 Q)) := set2_below hB4 g8
              unfold set2 at hBs
              generalize hs1 : (u4.setCell ⟨u1.heap.size, 0, none⟩ (.int .i64 P)).setCell ⟨u1.heap.size, 1, none⟩ (.int .i64 Q) = x1 at *
              obtain ⟨t0, t1, t5, t6, t7, t8⟩ := HH
              have hnn : u1.heap.size ≠ u3.heap.size := by omega
              have hn2 : u3.heap.size ≠ u1.heap.size := by omega
              have hs13 : (∀ i, i < 2 → ∃ v, x1.cell? ⟨u3.heap.size, i, none⟩ = some v) ∧ (∀ j, x1.frozen? ⟨u3.heap.size, j, none⟩ = false) := ⟨fun i hi => by obtain ⟨v, hv⟩ := h9_4.1 i hi; exact ⟨v, (t6 _ _ hn2).trans hv⟩, fun j => (World.frozen?_of_block (a := ⟨u3.heap.size, j, none⟩) (t7 _ hn2)).trans (h9_4.2 j)⟩
              obtain ⟨⟨av0, a0⟩, ⟨av1, a1⟩⟩ := And.intro (hs13.1 0 (by omega)) (hs13.1 1 (by omega))
              have af := hs13.2
              have k12 : u1.heap.size < x1.heap.size := by rw [t8]; exact q8_4
              have k13 : u3.heap.size < x1.heap.size := by rw [t8]; exact q9_4
              have T0 := Lib.hid t0
              have T1 := Lib.hid t1
              clear t0 t1 t5 t6 t7 t8 hs1 e0 e1 ef
              refine wpAnyH_ready (rs := [11]) (by kernel_rfl) (by simp) ?_
              refine AllReadyH.cons rfl (fun K hK => ?_) (AllReadyH.nil)
              go_simp
              go_wp2_with fail
              refine hK.out _ _ (HS'.out _ (set2_below hBs g9)) (fun hHeld => ?_)
              clear hK K
              try simp only [Act.put, List.setIfInBounds_toArray, List.set_cons_zero, List.set_cons_succ]
              refine wpAnyH_done (by kernel_rfl) ?_ _
              go_wp2_with fail
              go_meet
              exact ⟨rfl, R8.of hBs g8 k12 g9 k13 hnn T0.out T1.out hs13⟩
            · skip
              go_simp
              go_wp2_with fail
              refine hK.out _ _ (HS'.out _ ((hB2).alloc (hB2).size _)) (fun hHeld => ?_)
              clear hK K
              try simp only [Act.put, List.setIfInBounds_toArray, List.set_cons_zero, List.set_cons_succ]
              generalize hq3 : u2.alloc (.cells #[.int .i64 0, .int .i64 0] 32) = u3
              have hb3 : Below u2.heap.size u2 u3 := by rw [← hq3]; exact (Below.refl _ _).alloc (Nat.le_refl _) _
              have hB3 : Below w4.heap.size w4 u3 := (hB2).trans (hb3.mono (hB2).size)
              have h8_3 := has2_below (b := u1.heap.size) h8_2 hb3 q8_2
              have q8_3 : u1.heap.size < u3.heap.size := Nat.lt_of_lt_of_le q8_2 hb3.size
              have h9_3 : (∀ i, i < 2 → ∃ v, u3.cell? ⟨u2.heap.size, i, none⟩ = some v) ∧ (∀ j, u3.frozen? ⟨u2.heap.size, j, none⟩ = false) := by rw [← hq3]; exact new2_is u2 _ _ _
              have q9_3 : u2.heap.size < u3.heap.size := by rw [← hq3]; simp
              have g9 : w4.heap.size ≤ u2.heap.size := (hB2).size
              clear hq3
              refine wpAnyH_ready (rs := [7]) (by kernel_rfl) (by simp) ?_
              refine AllReadyH.cons rfl (fun K hK => ?_) (AllReadyH.nil)
              go_simp
              refine (HE1.out _).mono ?_
              rintro e u4 ⟨rfl, hb4⟩
              have hB4 : Below w4.heap.size w4 u4 := (hB3).trans (hb4.mono (hB3).size)
              have h8_4 := has2_below (b := u1.heap.size) h8_3 hb4 q8_3
              have q8_4 : u1.heap.size < u4.heap.size := Nat.lt_of_lt_of_le q8_3 hb4.size
              have h9_4 := has2_below (b := u2.heap.size) h9_3 hb4 q9_3
              have q9_4 : u2.heap.size < u4.heap.size := Nat.lt_of_lt_of_le q9_3 hb4.size
              go_wp2_with fail
              refine hK.out _ _ (HS'.out _ (hB4)) (fun hHeld => ?_)
              clear hK K
              try simp only [Act.put, List.setIfInBounds_toArray, List.set_cons_zero, List.set_cons_succ]
              obtain ⟨⟨ev0, e0⟩, ⟨ev1, e1⟩⟩ := And.intro (h8_4.1 0 (by omega)) (h8_4.1 1 (by omega))
              have ef := h8_4.2
              refine wpAnyH_ready (rs := [10]) (by kernel_rfl) (by simp) ?_
              refine AllReadyH.cons rfl (fun K hK => ?_) (AllReadyH.nil)
              go_simp
              go_wp2_with fail
              refine hK.out _ _ (HS'.out _ (set2_below hB4 g8)) (fun hHeld => ?_)
              clear hK K
              try simp only [Act.put, List.setIfInBounds_toArray, List.set_cons_zero, List.set_cons_succ]
              have HH := set2_is (X := u4) (b := u1.heap.size) (.int .i64 P) (.int .i64 Q) h8_4.1 h8_4.2
              unfold set2 at HH
              have hBs : Below w4.heap.size w4 (set2 u4 u1.heap.size (.int .i64 P) (.int .i64 Q)) := set2_below hB4 g8
              unfold set2 at hBs
              generalize hs1 : (u4.setCell ⟨u1.heap.size, 0, none⟩ (.int .i64 P)).setCell ⟨u1.heap.size, 1, none⟩ (.int .i64 Q) = x1 at *
              obtain ⟨t0, t1, t5, t6, t7, t8⟩ := HH
              have hnn : u1.heap.size ≠ u2.heap.size := by omega
              have hn2 : u2.heap.size ≠ u1.heap.size := by omega
              have hs13 : (∀ i, i < 2 → ∃ v, x1.cell? ⟨u2.heap.size, i, none⟩ = some v) ∧ (∀ j, x1.frozen? ⟨u2.heap.size, j, none⟩ = false) := ⟨fun i hi => by obtain ⟨v, hv⟩ := h9_4.1 i hi; exact ⟨v, (t6 _ _ hn2).trans hv⟩, fun j => (World.frozen?_of_block (a := ⟨u2.heap.size, j, none⟩) (t7 _ hn2)).trans (h9_4.2 j)⟩
              obtain ⟨⟨av0, a0⟩, ⟨av1, a1⟩⟩ := And.intro (hs13.1 0 (by omega)) (hs13.1 1 (by omega))
              have af := hs13.2
              have k12 : u1.heap.size < x1.heap.size := by rw [t8]; exact q8_4
              have k13 : u2.heap.size < x1.heap.size := by rw [t8]; exact q9_4
              have T0 := Lib.hid t0
              have T1 := Lib.hid t1
              clear t0 t1 t5 t6 t7 t8 hs1 e0 e1 ef
              refine wpAnyH_ready (rs := [11]) (by kernel_rfl) (by simp) ?_
              refine AllReadyH.cons rfl (fun K hK => ?_) (AllReadyH.nil)
              go_simp
              go_wp2_with fail
              refine hK.out _ _ (HS'.out _ (set2_below hBs g9)) (fun hHeld => ?_)
              clear hK K
              try simp only [Act.put, List.setIfInBounds_toArray, List.set_cons_zero, List.set_cons_succ]
              refine wpAnyH_done (by kernel_rfl) ?_ _
              go_wp2_with fail
              go_meet
              exact ⟨rfl, R8.of hBs g8 k12 g9 k13 hnn T0.out T1.out hs13⟩
          · skip
            go_simp
            go_wp2_with fail
            refine hK.out _ _ (HS'.out _ ((hB1).alloc (hB1).size _)) (fun hHeld => ?_)
            clear hK K
            try simp only [Act.put, List.setIfInBounds_toArray, List.set_cons_zero, List.set_cons_succ]
            generalize hq2 : u1.alloc (.cells #[.int .i64 0, .int .i64 0] 32) = u2
            have hb2 : Below u1.heap.size u1 u2 := by rw [← hq2]; exact (Below.refl _ _).alloc (Nat.le_refl _) _
            have hB2 : Below w4.heap.size w4 u2 := (hB1).trans (hb2.mono (hB1).size)
            have h9_2 : (∀ i, i < 2 → ∃ v, u2.cell? ⟨u1.heap.size, i, none⟩ = some v) ∧ (∀ j, u2.frozen? ⟨u1.heap.size, j, none⟩ = false) := by rw [← hq2]; exact new2_is u1 _ _ _
            have q9_2 : u1.heap.size < u2.heap.size := by rw [← hq2]; simp
            have g9 : w4.heap.size ≤ u1.heap.size := (hB1).size
            clear hq2
            refine wpAnyH_ready (rs := [7, 8]) (by kernel_rfl) (by simp) ?_
            refine AllReadyH.cons rfl (fun K hK => ?_) (AllReadyH.cons rfl (fun K hK => ?_) (AllReadyH.nil))
            · skip
              go_simp
              refine (HE1.out _).mono ?_
              rintro e u3 ⟨rfl, hb3⟩
              have hB3 : Below w4.heap.size w4 u3 := (hB2).trans (hb3.mono (hB2).size)
              have h9_3 := has2_below (b := u1.heap.size) h9_2 hb3 q9_2
              have q9_3 : u1.heap.size < u3.heap.size := Nat.lt_of_lt_of_le q9_2 hb3.size
              go_wp2_with fail
              refine hK.out _ _ (HS'.out _ (hB3)) (fun hHeld => ?_)
              clear hK K
              try simp only [Act.put, List.setIfInBounds_toArray, List.set_cons_zero, List.set_cons_succ]
              refine wpAnyH_ready (rs := [8]) (by kernel_rfl) (by simp) ?_
              refine AllReadyH.cons rfl (fun K hK => ?_) (AllReadyH.nil)
              go_simp
              go_wp2_with fail
              refine hK.out _ _ (HS'.out _ ((hB3).alloc (hB3).size _)) (fun hHeld => ?_)
              clear hK K
              try simp only [Act.put, List.setIfInBounds_toArray, List.set_cons_zero, List.set_cons_succ]
              generalize hq4 : u3.alloc (.cells #[.int .i64 0, .int .i64 0] 145) = u4
              have hb4 : Below u3.heap.size u3 u4 := by rw [← hq4]; exact (Below.refl _ _).alloc (Nat.le_refl _) _
              have hB4 : Below w4.heap.size w4 u4 := (hB3).trans (hb4.mono (hB3).size)
              have h9_4 := has2_below (b := u1.heap.size) h9_3 hb4 q9_3
              have q9_4 : u1.heap.size < u4.heap.size := Nat.lt_of_lt_of_le q9_3 hb4.size
              have h8_4 : (∀ i, i < 2 → ∃ v, u4.cell? ⟨u3.heap.size, i, none⟩ = some v) ∧ (∀ j, u4.frozen? ⟨u3.heap.size, j, none⟩ = false) := by rw [← hq4]; exact new2_is u3 _ _ _
              have q8_4 : u3.heap.size < u4.heap.size := by rw [← hq4]; simp
              have g8 : w4.heap.size ≤ u3.heap.size := (hB3).size
              clear hq4
              obtain ⟨⟨ev0, e0⟩, ⟨ev1, e1⟩⟩ := And.intro (h8_4.1 0 (by omega)) (h8_4.1 1 (by omega))
              have ef := h8_4.2
              refine wpAnyH_ready (rs := [10]) (by kernel_rfl) (by simp) ?_
              refine AllReadyH.cons rfl (fun K hK => ?_) (AllReadyH.nil)
              go_simp
              go_wp2_with fail
              refine hK.out _ _ (HS'.out _ (set2_below hB4 g8)) (fun hHeld => ?_)
              clear hK K
              try simp only [Act.put, List.setIfInBounds_toArray, List.set_cons_zero, List.set_cons_succ]
              have HH := set2_is (X := u4) (b := u3.heap.size) (.int .i64 P) (.int .i64 Q) h8_4.1 h8_4.2
              unfold set2 at HH
              have hBs : Below w4.heap.size w4 (set2 u4 u3.heap.size (.int .i64 P) (.int .i64 Q)) := set2_below hB4 g8
              unfold set2 at hBs
              generalize hs1 : (u4.setCell ⟨u3.heap.size, 0, none⟩ (.int .i64 P)).setCell ⟨u3.heap.size, 1, none⟩ (.int .i64 Q) = x1 at *
              obtain ⟨t0, t1, t5, t6, t7, t8⟩ := HH
              have hnn : u3.heap.size ≠ u1.heap.size := by omega
              have hn2 : u1.heap.size ≠ u3.heap.size := by omega
              have hs13 : (∀ i, i < 2 → ∃ v, x1.cell? ⟨u1.heap.size, i, none⟩ = some v) ∧ (∀ j, x1.frozen? ⟨u1.heap.size, j, none⟩ = false) := ⟨fun i hi => by obtain ⟨v, hv⟩ := h9_4.1 i hi; exact ⟨v, (t6 _ _ hn2).trans hv⟩, fun j => (World.frozen?_of_block (a := ⟨u1.heap.size, j, none⟩) (t7 _ hn2)).trans (h9_4.2 j)⟩
              obtain ⟨⟨av0, a0⟩, ⟨av1, a1⟩⟩ := And.intro (hs13.1 0 (by omega)) (hs13.1 1 (by omega))
              have af := hs13.2
              have k12 : u3.heap.size < x1.heap.size := by rw [t8]; exact q8_4
              have k13 : u1.heap.size < x1.heap.size := by rw [t8]; exact q9_4
              have T0 := Lib.hid t0
              have T1 := Lib.hid t1
              clear t0 t1 t5 t6 t7 t8 hs1 e0 e1 ef
              refine wpAnyH_ready (rs := [11]) (by kernel_rfl) (by simp) ?_
              refine AllReadyH.cons rfl (fun K hK => ?_) (AllReadyH.nil)
              go_simp
              go_wp2_with fail
              refine hK.out _ _ (HS'.out _ (set2_below hBs g9)) (fun hHeld => ?_)
              clear hK K
              try simp only [Act.put, List.setIfInBounds_toArray, List.set_cons_zero, List.set_cons_succ]
              refine wpAnyH_done (by kernel_rfl) ?_ _
              go_wp2_with fail
              go_meet
              exact ⟨rfl, R8.of hBs g8 k12 g9 k13 hnn T0.out T1.out hs13⟩
            · skip
              go_simp
              go_wp2_with fail
              refine hK.out _ _ (HS'.out _ ((hB2).alloc (hB2).size _)) (fun hHeld => ?_)
              clear hK K
              try simp only [Act.put, List.setIfInBounds_toArray, List.set_cons_zero, List.set_cons_succ]
              generalize hq3 : u2.alloc (.cells #[.int .i64 0, .int .i64 0] 145) = u3
              have hb3 : Below u2.heap.size u2 u3 := by rw [← hq3]; exact (Below.refl _ _).alloc (Nat.le_refl _) _
              have hB3 : Below w4.heap.size w4 u3 := (hB2).trans (hb3.mono (hB2).size)
              have h9_3 := has2_below (b := u1.heap.size) h9_2 hb3 q9_2
              have q9_3 : u1.heap.size < u3.heap.size := Nat.lt_of_lt_of_le q9_2 hb3.size
              have h8_3 : (∀ i, i < 2 → ∃ v, u3.cell? ⟨u2.heap.size, i, none⟩ = some v) ∧ (∀ j, u3.frozen? ⟨u2.heap.size, j, none⟩ = false) := by rw [← hq3]; exact new2_is u2 _ _ _
              have q8_3 : u2.heap.size < u3.heap.size := by rw [← hq3]; simp
              have g8 : w4.heap.size ≤ u2.heap.size := (hB2).size
              clear hq3
              refine wpAnyH_ready (rs := [7]) (by kernel_rfl) (by simp) ?_
              refine AllReadyH.cons rfl (fun K hK => ?_) (AllReadyH.nil)
              go_simp
              refine (HE1.out _).mono ?_
              rintro e u4 ⟨rfl, hb4⟩
              have hB4 : Below w4.heap.size w4 u4 := (hB3).trans (hb4.mono (hB3).size)
              have h9_4 := has2_below (b := u1.heap.size) h9_3 hb4 q9_3
              have q9_4 : u1.heap.size < u4.heap.size := Nat.lt_of_lt_of_le q9_3 hb4.size
              have h8_4 := has2_below (b := u2.heap.size) h8_3 hb4 q8_3
              have q8_4 : u2.heap.size < u4.heap.size := Nat.lt_of_lt_of_le q8_3 hb4.size
              go_wp2_with fail
              refine hK.out _ _ (HS'.out _ (hB4)) (fun hHeld => ?_)
              clear hK K
              try simp only [Act.put, List.setIfInBounds_toArray, List.set_cons_zero, List.set_cons_succ]
              obtain ⟨⟨ev0, e0⟩, ⟨ev1, e1⟩⟩ := And.intro (h8_4.1 0 (by omega)) (h8_4.1 1 (by omega))
              have ef := h8_4.2
              refine wpAnyH_ready (rs := [10]) (by kernel_rfl) (by simp) ?_
              refine AllReadyH.cons rfl (fun K hK => ?_) (AllReadyH.nil)
              go_simp
              go_wp2_with fail
              refine hK.out _ _ (HS'.out _ (set2_below hB4 g8)) (fun hHeld => ?_)
              clear hK K
              try simp only [Act.put, List.setIfInBounds_toArray, List.set_cons_zero, List.set_cons_succ]
              have HH := set2_is (X := u4) (b := u2.heap.size) (.int .i64 P) (.int .i64 Q) h8_4.1 h8_4.2
              unfold set2 at HH
              have hBs : Below w4.heap.size w4 (set2 u4 u2.heap.size (.int .i64 P) (.int .i64 Q)) := set2_below hB4 g8
              unfold set2 at hBs
              generalize hs1 : (u4.setCell ⟨u2.heap.size, 0, none⟩ (.int .i64 P)).setCell ⟨u2.heap.size, 1, none⟩ (.int .i64 Q) = x1 at *
              obtain ⟨t0, t1, t5, t6, t7, t8⟩ := HH
              have hnn : u2.heap.size ≠ u1.heap.size := by omega
              have hn2 : u1.heap.size ≠ u2.heap.size := by omega
              have hs13 : (∀ i, i < 2 → ∃ v, x1.cell? ⟨u1.heap.size, i, none⟩ = some v) ∧ (∀ j, x1.frozen? ⟨u1.heap.size, j, none⟩ = false) := ⟨fun i hi => by obtain ⟨v, hv⟩ := h9_4.1 i hi; exact ⟨v, (t6 _ _ hn2).trans hv⟩, fun j => (World.frozen?_of_block (a := ⟨u1.heap.size, j, none⟩) (t7 _ hn2)).trans (h9_4.2 j)⟩
              obtain ⟨⟨av0, a0⟩, ⟨av1, a1⟩⟩ := And.intro (hs13.1 0 (by omega)) (hs13.1 1 (by omega))
              have af := hs13.2
              have k12 : u2.heap.size < x1.heap.size := by rw [t8]; exact q8_4
              have k13 : u1.heap.size < x1.heap.size := by rw [t8]; exact q9_4
              have T0 := Lib.hid t0
              have T1 := Lib.hid t1
              clear t0 t1 t5 t6 t7 t8 hs1 e0 e1 ef
              refine wpAnyH_ready (rs := [11]) (by kernel_rfl) (by simp) ?_
              refine AllReadyH.cons rfl (fun K hK => ?_) (AllReadyH.nil)
              go_simp
              go_wp2_with fail
              refine hK.out _ _ (HS'.out _ (set2_below hBs g9)) (fun hHeld => ?_)
              clear hK K
              try simp only [Act.put, List.setIfInBounds_toArray, List.set_cons_zero, List.set_cons_succ]
              refine wpAnyH_done (by kernel_rfl) ?_ _
              go_wp2_with fail
              go_meet
              exact ⟨rfl, R8.of hBs g8 k12 g9 k13 hnn T0.out T1.out hs13⟩
        · skip
          go_simp
          go_wp2_with fail
          refine hK.out _ _ (HS'.out _ ((hB0).alloc (hB0).size _)) (fun hHeld => ?_)
          clear hK K
          try simp only [Act.put, List.setIfInBounds_toArray, List.set_cons_zero, List.set_cons_succ]
          generalize hq1 : u0.alloc (.cells #[.int .i64 0, .int .i64 0] 145) = u1
          have hb1 : Below u0.heap.size u0 u1 := by rw [← hq1]; exact (Below.refl _ _).alloc (Nat.le_refl _) _
          have hB1 : Below w4.heap.size w4 u1 := (hB0).trans (hb1.mono (hB0).size)
          have h8_1 : (∀ i, i < 2 → ∃ v, u1.cell? ⟨u0.heap.size, i, none⟩ = some v) ∧ (∀ j, u1.frozen? ⟨u0.heap.size, j, none⟩ = false) := by rw [← hq1]; exact new2_is u0 _ _ _
          have q8_1 : u0.heap.size < u1.heap.size := by rw [← hq1]; simp
          have g8 : w4.heap.size ≤ u0.heap.size := (hB0).size
          clear hq1
          refine wpAnyH_ready (rs := [2, 9]) (by kernel_rfl) (by simp) ?_
          refine AllReadyH.cons rfl (fun K hK => ?_) (AllReadyH.cons rfl (fun K hK => ?_) (AllReadyH.nil))
          · skip
            go_simp
            refine (HL1.out _).mono ?_
            rintro e u2 ⟨rfl, hb2⟩
            have hB2 : Below w4.heap.size w4 u2 := (hB1).trans (hb2.mono (hB1).size)
            have h8_2 := has2_below (b := u0.heap.size) h8_1 hb2 q8_1
            have q8_2 : u0.heap.size < u2.heap.size := Nat.lt_of_lt_of_le q8_1 hb2.size
            go_wp2_with fail
            refine hK.out _ _ (HS'.out _ (hB2)) (fun hHeld => ?_)
            clear hK K
            try simp only [Act.put, List.setIfInBounds_toArray, List.set_cons_zero, List.set_cons_succ]
            refine wpAnyH_ready (rs := [7, 9]) (by kernel_rfl) (by simp) ?_
            refine AllReadyH.cons rfl (fun K hK => ?_) (AllReadyH.cons rfl (fun K hK => ?_) (AllReadyH.nil))
            · skip
              go_simp
              refine (HE1.out _).mono ?_
              rintro e u3 ⟨rfl, hb3⟩
              have hB3 : Below w4.heap.size w4 u3 := (hB2).trans (hb3.mono (hB2).size)
              have h8_3 := has2_below (b := u0.heap.size) h8_2 hb3 q8_2
              have q8_3 : u0.heap.size < u3.heap.size := Nat.lt_of_lt_of_le q8_2 hb3.size
              go_wp2_with fail
              refine hK.out _ _ (HS'.out _ (hB3)) (fun hHeld => ?_)
              clear hK K
              try simp only [Act.put, List.setIfInBounds_toArray, List.set_cons_zero, List.set_cons_succ]
              refine wpAnyH_ready (rs := [9]) (by kernel_rfl) (by simp) ?_
              refine AllReadyH.cons rfl (fun K hK => ?_) (AllReadyH.nil)
              go_simp
              go_wp2_with fail
              refine hK.out _ _ (HS'.out _ ((hB3).alloc (hB3).size _)) (fun hHeld => ?_)
              clear hK K
              try simp only [Act.put, List.setIfInBounds_toArray, List.set_cons_zero, List.set_cons_succ]
              generalize hq4 : u3.alloc (.cells #[.int .i64 0, .int .i64 0] 32) = u4
              have hb4 : Below u3.heap.size u3 u4 := by rw [← hq4]; exact (Below.refl _ _).alloc (Nat.le_refl _) _
              have hB4 : Below w4.heap.size w4 u4 := (hB3).trans (hb4.mono (hB3).size)
              have h8_4 := has2_below (b := u0.heap.size) h8_3 hb4 q8_3
              have q8_4 : u0.heap.size < u4.heap.size := Nat.lt_of_lt_of_le q8_3 hb4.size
              have h9_4 : (∀ i, i < 2 → ∃ v, u4.cell? ⟨u3.heap.size, i, none⟩ = some v) ∧ (∀ j, u4.frozen? ⟨u3.heap.size, j, none⟩ = false) := by rw [← hq4]; exact new2_is u3 _ _ _
              have q9_4 : u3.heap.size < u4.heap.size := by rw [← hq4]; simp
              have g9 : w4.heap.size ≤ u3.heap.size := (hB3).size
              clear hq4
              obtain ⟨⟨ev0, e0⟩, ⟨ev1, e1⟩⟩ := And.intro (h8_4.1 0 (by omega)) (h8_4.1 1 (by omega))
              have ef := h8_4.2
              refine wpAnyH_ready (rs := [10]) (by kernel_rfl) (by simp) ?_
              refine AllReadyH.cons rfl (fun K hK => ?_) (AllReadyH.nil)
              go_simp
              go_wp2_with fail
              refine hK.out _ _ (HS'.out _ (set2_below hB4 g8)) (fun hHeld => ?_)
              clear hK K
              try simp only [Act.put, List.setIfInBounds_toArray, List.set_cons_zero, List.set_cons_succ]
              have HH := set2_is (X := u4) (b := u0.heap.size) (.int .i64 P) (.int .i64 Q) h8_4.1 h8_4.2
              unfold set2 at HH
              have hBs : Below w4.heap.size w4 (set2 u4 u0.heap.size (.int .i64 P) (.int .i64 Q)) := set2_below hB4 g8
              unfold set2 at hBs
              generalize hs1 : (u4.setCell ⟨u0.heap.size, 0, none⟩ (.int .i64 P)).setCell ⟨u0.heap.size, 1, none⟩ (.int .i64 Q) = x1 at *
              obtain ⟨t0, t1, t5, t6, t7, t8⟩ := HH
              have hnn : u0.heap.size ≠ u3.heap.size := by omega
              have hn2 : u3.heap.size ≠ u0.heap.size := by omega
              have hs13 : (∀ i, i < 2 → ∃ v, x1.cell? ⟨u3.heap.size, i, none⟩ = some v) ∧ (∀ j, x1.frozen? ⟨u3.heap.size, j, none⟩ = false) := ⟨fun i hi => by obtain ⟨v, hv⟩ := h9_4.1 i hi; exact ⟨v, (t6 _ _ hn2).trans hv⟩, fun j => (World.frozen?_of_block (a := ⟨u3.heap.size, j, none⟩) (t7 _ hn2)).trans (h9_4.2 j)⟩
              obtain ⟨⟨av0, a0⟩, ⟨av1, a1⟩⟩ := And.intro (hs13.1 0 (by omega)) (hs13.1 1 (by omega))
              have af := hs13.2
              have k12 : u0.heap.size < x1.heap.size := by rw [t8]; exact q8_4
              have k13 : u3.heap.size < x1.heap.size := by rw [t8]; exact q9_4
              have T0 := Lib.hid t0
              have T1 := Lib.hid t1
              clear t0 t1 t5 t6 t7 t8 hs1 e0 e1 ef
              refine wpAnyH_ready (rs := [11]) (by kernel_rfl) (by simp) ?_
              refine AllReadyH.cons rfl (fun K hK => ?_) (AllReadyH.nil)
              go_simp
              go_wp2_with fail
              refine hK.out _ _ (HS'.out _ (set2_below hBs g9)) (fun hHeld => ?_)
              clear hK K
              try simp only [Act.put, List.setIfInBounds_toArray, List.set_cons_zero, List.set_cons_succ]
              refine wpAnyH_done (by kernel_rfl) ?_ _
              go_wp2_with fail
              go_meet
              exact ⟨rfl, R8.of hBs g8 k12 g9 k13 hnn T0.out T1.out hs13⟩
            · skip
              go_simp
              go_wp2_with fail
              refine hK.out _ _ (HS'.out _ ((hB2).alloc (hB2).size _)) (fun hHeld => ?_)
              clear hK K
              try simp only [Act.put, List.setIfInBounds_toArray, List.set_cons_zero, List.set_cons_succ]
              generalize hq3 : u2.alloc (.cells #[.int .i64 0, .int .i64 0] 32) = u3
              have hb3 : Below u2.heap.size u2 u3 := by rw [← hq3]; exact (Below.refl _ _).alloc (Nat.le_refl _) _
              have hB3 : Below w4.heap.size w4 u3 := (hB2).trans (hb3.mono (hB2).size)
              have h8_3 := has2_below (b := u0.heap.size) h8_2 hb3 q8_2
              have q8_3 : u0.heap.size < u3.heap.size := Nat.lt_of_lt_of_le q8_2 hb3.size
              have h9_3 : (∀ i, i < 2 → ∃ v, u3.cell? ⟨u2.heap.size, i, none⟩ = some v) ∧ (∀ j, u3.frozen? ⟨u2.heap.size, j, none⟩ = false) := by rw [← hq3]; exact new2_is u2 _ _ _
              have q9_3 : u2.heap.size < u3.heap.size := by rw [← hq3]; simp
              have g9 : w4.heap.size ≤ u2.heap.size := (hB2).size
              clear hq3
              refine wpAnyH_ready (rs := [7]) (by kernel_rfl) (by simp) ?_
              refine AllReadyH.cons rfl (fun K hK => ?_) (AllReadyH.nil)
              go_simp
              refine (HE1.out _).mono ?_
              rintro e u4 ⟨rfl, hb4⟩
              have hB4 : Below w4.heap.size w4 u4 := (hB3).trans (hb4.mono (hB3).size)
              have h8_4 := has2_below (b := u0.heap.size) h8_3 hb4 q8_3
              have q8_4 : u0.heap.size < u4.heap.size := Nat.lt_of_lt_of_le q8_3 hb4.size
              have h9_4 := has2_below (b := u2.heap.size) h9_3 hb4 q9_3
              have q9_4 : u2.heap.size < u4.heap.size := Nat.lt_of_lt_of_le q9_3 hb4.size
              go_wp2_with fail
              refine hK.out _ _ (HS'.out _ (hB4)) (fun hHeld => ?_)
              clear hK K
              try simp only [Act.put, List.setIfInBounds_toArray, List.set_cons_zero, List.set_cons_succ]
              obtain ⟨⟨ev0, e0⟩, ⟨ev1, e1⟩⟩ := And.intro (h8_4.1 0 (by omega)) (h8_4.1 1 (by omega))
              have ef := h8_4.2
              refine wpAnyH_ready (rs := [10]) (by kernel_rfl) (by simp) ?_
              refine AllReadyH.cons rfl (fun K hK => ?_) (AllReadyH.nil)
              go_simp
              go_wp2_with fail
              refine hK.out _ _ (HS'.out _ (set2_below hB4 g8)) (fun hHeld => ?_)
              clear hK K
              try simp only [Act.put, List.setIfInBounds_toArray, List.set_cons_zero, List.set_cons_succ]
              have HH := set2_is (X := u4) (b := u0.heap.size) (.int .i64 P) (.int .i64 Q) h8_4.1 h8_4.2
              unfold set2 at HH
              have hBs : Below w4.heap.size w4 (set2 u4 u0.heap.size (.int .i64 P) (.int .i64 Q)) := set2_below hB4 g8
              unfold set2 at hBs
              generalize hs1 : (u4.setCell ⟨u0.heap.size, 0, none⟩ (.int .i64 P)).setCell ⟨u0.heap.size, 1, none⟩ (.int .i64 Q) = x1 at *
              obtain ⟨t0, t1, t5, t6, t7, t8⟩ := HH
              have hnn : u0.heap.size ≠ u2.heap.size := by omega
              have hn2 : u2.heap.size ≠ u0.heap.size := by omega
              have hs13 : (∀ i, i < 2 → ∃ v, x1.cell? ⟨u2.heap.size, i, none⟩ = some v) ∧ (∀ j, x1.frozen? ⟨u2.heap.size, j, none⟩ = false) := ⟨fun i hi => by obtain ⟨v, hv⟩ := h9_4.1 i hi; exact ⟨v, (t6 _ _ hn2).trans hv⟩, fun j => (World.frozen?_of_block (a := ⟨u2.heap.size, j, none⟩) (t7 _ hn2)).trans (h9_4.2 j)⟩
              obtain ⟨⟨av0, a0⟩, ⟨av1, a1⟩⟩ := And.intro (hs13.1 0 (by omega)) (hs13.1 1 (by omega))
              have af := hs13.2
              have k12 : u0.heap.size < x1.heap.size := by rw [t8]; exact q8_4
              have k13 : u2.heap.size < x1.heap.size := by rw [t8]; exact q9_4
              have T0 := Lib.hid t0
              have T1 := Lib.hid t1
              clear t0 t1 t5 t6 t7 t8 hs1 e0 e1 ef
              refine wpAnyH_ready (rs := [11]) (by kernel_rfl) (by simp) ?_
              refine AllReadyH.cons rfl (fun K hK => ?_) (AllReadyH.nil)
              go_simp
              go_wp2_with fail
              refine hK.out _ _ (HS'.out _ (set2_below hBs g9)) (fun hHeld => ?_)
              clear hK K
              try simp only [Act.put, List.setIfInBounds_toArray, List.set_cons_zero, List.set_cons_succ]
              refine wpAnyH_done (by kernel_rfl) ?_ _
              go_wp2_with fail
              go_meet
              exact ⟨rfl, R8.of hBs g8 k12 g9 k13 hnn T0.out T1.out hs13⟩
          · skip
            go_simp
            go_wp2_with fail
            refine hK.out _ _ (HS'.out _ ((hB1).alloc (hB1).size _)) (fun hHeld => ?_)
            clear hK K
            try simp only [Act.put, List.setIfInBounds_toArray, List.set_cons_zero, List.set_cons_succ]
            generalize hq2 : u1.alloc (.cells #[.int .i64 0, .int .i64 0] 32) = u2
            have hb2 : Below u1.heap.size u1 u2 := by rw [← hq2]; exact (Below.refl _ _).alloc (Nat.le_refl _) _
            have hB2 : Below w4.heap.size w4 u2 := (hB1).trans (hb2.mono (hB1).size)
            have h8_2 := has2_below (b := u0.heap.size) h8_1 hb2 q8_1
            have q8_2 : u0.heap.size < u2.heap.size := Nat.lt_of_lt_of_le q8_1 hb2.size
            have h9_2 : (∀ i, i < 2 → ∃ v, u2.cell? ⟨u1.heap.size, i, none⟩ = some v) ∧ (∀ j, u2.frozen? ⟨u1.heap.size, j, none⟩ = false) := by rw [← hq2]; exact new2_is u1 _ _ _
            have q9_2 : u1.heap.size < u2.heap.size := by rw [← hq2]; simp
            have g9 : w4.heap.size ≤ u1.heap.size := (hB1).size
            clear hq2
            refine wpAnyH_ready (rs := [2]) (by kernel_rfl) (by simp) ?_
            refine AllReadyH.cons rfl (fun K hK => ?_) (AllReadyH.nil)
            go_simp
            refine (HL1.out _).mono ?_
            rintro e u3 ⟨rfl, hb3⟩
            have hB3 : Below w4.heap.size w4 u3 := (hB2).trans (hb3.mono (hB2).size)
            have h8_3 := has2_below (b := u0.heap.size) h8_2 hb3 q8_2
            have q8_3 : u0.heap.size < u3.heap.size := Nat.lt_of_lt_of_le q8_2 hb3.size
            have h9_3 := has2_below (b := u1.heap.size) h9_2 hb3 q9_2
            have q9_3 : u1.heap.size < u3.heap.size := Nat.lt_of_lt_of_le q9_2 hb3.size
            go_wp2_with fail
            refine hK.out _ _ (HS'.out _ (hB3)) (fun hHeld => ?_)
            clear hK K
            try simp only [Act.put, List.setIfInBounds_toArray, List.set_cons_zero, List.set_cons_succ]
            refine wpAnyH_ready (rs := [7]) (by kernel_rfl) (by simp) ?_
            refine AllReadyH.cons rfl (fun K hK => ?_) (AllReadyH.nil)
            go_simp
            refine (HE1.out _).mono ?_
            rintro e u4 ⟨rfl, hb4⟩
            have hB4 : Below w4.heap.size w4 u4 := (hB3).trans (hb4.mono (hB3).size)
            have h8_4 := has2_below (b := u0.heap.size) h8_3 hb4 q8_3
            have q8_4 : u0.heap.size < u4.heap.size := Nat.lt_of_lt_of_le q8_3 hb4.size
            have h9_4 := has2_below (b := u1.heap.size) h9_3 hb4 q9_3
            have q9_4 : u1.heap.size < u4.heap.size := Nat.lt_of_lt_of_le q9_3 hb4.size
            go_wp2_with fail
            refine hK.out _ _ (HS'.out _ (hB4)) (fun hHeld => ?_)
            clear hK K
            try simp only [Act.put, List.setIfInBounds_toArray, List.set_cons_zero, List.set_cons_succ]
            obtain ⟨⟨ev0, e0⟩, ⟨ev1, e1⟩⟩ := And.intro (h8_4.1 0 (by omega)) (h8_4.1 1 (by omega))
            have ef := h8_4.2
            refine wpAnyH_ready (rs := [10]) (by kernel_rfl) (by simp) ?_
            refine AllReadyH.cons rfl (fun K hK => ?_) (AllReadyH.nil)
            go_simp
            go_wp2_with fail
            refine hK.out _ _ (HS'.out _ (set2_below hB4 g8)) (fun hHeld => ?_)
            clear hK K
            try simp only [Act.put, List.setIfInBounds_toArray, List.set_cons_zero, List.set_cons_succ]
            have HH := set2_is (X := u4) (b := u0.heap.size) (.int .i64 P) (.int .i64 Q) h8_4.1 h8_4.2
            unfold set2 at HH
            have hBs : Below w4.heap.size w4 (set2 u4 u0.heap.size (.int .i64 P) (.int .i64 Q)) := set2_below hB4 g8
            unfold set2 at hBs
            generalize hs1 : (u4.setCell ⟨u0.heap.size, 0, none⟩ (.int .i64 P)).setCell ⟨u0.heap.size, 1, none⟩ (.int .i64 Q) = x1 at *
            obtain ⟨t0, t1, t5, t6, t7, t8⟩ := HH
            have hnn : u0.heap.size ≠ u1.heap.size := by omega
            have hn2 : u1.heap.size ≠ u0.heap.size := by omega
            have hs13 : (∀ i, i < 2 → ∃ v, x1.cell? ⟨u1.heap.size, i, none⟩ = some v) ∧ (∀ j, x1.frozen? ⟨u1.heap.size, j, none⟩ = false) := ⟨fun i hi => by obtain ⟨v, hv⟩ := h9_4.1 i hi; exact ⟨v, (t6 _ _ hn2).trans hv⟩, fun j => (World.frozen?_of_block (a := ⟨u1.heap.size, j, none⟩) (t7 _ hn2)).trans (h9_4.2 j)⟩
            obtain ⟨⟨av0, a0⟩, ⟨av1, a1⟩⟩ := And.intro (hs13.1 0 (by omega)) (hs13.1 1 (by omega))
            have af := hs13.2
            have k12 : u0.heap.size < x1.heap.size := by rw [t8]; exact q8_4
            have k13 : u1.heap.size < x1.heap.size := by rw [t8]; exact q9_4
            have T0 := Lib.hid t0
            have T1 := Lib.hid t1
            clear t0 t1 t5 t6 t7 t8 hs1 e0 e1 ef
            refine wpAnyH_ready (rs := [11]) (by kernel_rfl) (by simp) ?_
            refine AllReadyH.cons rfl (fun K hK => ?_) (AllReadyH.nil)
            go_simp
            go_wp2_with fail
            refine hK.out _ _ (HS'.out _ (set2_below hBs g9)) (fun hHeld => ?_)
            clear hK K
            try simp only [Act.put, List.setIfInBounds_toArray, List.set_cons_zero, List.set_cons_succ]
            refine wpAnyH_done (by kernel_rfl) ?_ _
            go_wp2_with fail
            go_meet
            exact ⟨rfl, R8.of hBs g8 k12 g9 k13 hnn T0.out T1.out hs13⟩
        · skip
          go_simp
          go_wp2_with fail
          refine hK.out _ _ (HS'.out _ ((hB0).alloc (hB0).size _)) (fun hHeld => ?_)
          clear hK K
          try simp only [Act.put, List.setIfInBounds_toArray, List.set_cons_zero, List.set_cons_succ]
          generalize hq1 : u0.alloc (.cells #[.int .i64 0, .int .i64 0] 32) = u1
          have hb1 : Below u0.heap.size u0 u1 := by rw [← hq1]; exact (Below.refl _ _).alloc (Nat.le_refl _) _
          have hB1 : Below w4.heap.size w4 u1 := (hB0).trans (hb1.mono (hB0).size)
          have h9_1 : (∀ i, i < 2 → ∃ v, u1.cell? ⟨u0.heap.size, i, none⟩ = some v) ∧ (∀ j, u1.frozen? ⟨u0.heap.size, j, none⟩ = false) := by rw [← hq1]; exact new2_is u0 _ _ _
          have q9_1 : u0.heap.size < u1.heap.size := by rw [← hq1]; simp
          have g9 : w4.heap.size ≤ u0.heap.size := (hB0).size
          clear hq1
          refine wpAnyH_ready (rs := [2, 8]) (by kernel_rfl) (by simp) ?_
          refine AllReadyH.cons rfl (fun K hK => ?_) (AllReadyH.cons rfl (fun K hK => ?_) (AllReadyH.nil))
          · skip
            go_simp
            refine (HL1.out _).mono ?_
            rintro e u2 ⟨rfl, hb2⟩
            have hB2 : Below w4.heap.size w4 u2 := (hB1).trans (hb2.mono (hB1).size)
            have h9_2 := has2_below (b := u0.heap.size) h9_1 hb2 q9_1
            have q9_2 : u0.heap.size < u2.heap.size := Nat.lt_of_lt_of_le q9_1 hb2.size
            go_wp2_with fail
            refine hK.out _ _ (HS'.out _ (hB2)) (fun hHeld => ?_)
            clear hK K
            try simp only [Act.put, List.setIfInBounds_toArray, List.set_cons_zero, List.set_cons_succ]
            refine wpAnyH_ready (rs := [7, 8]) (by kernel_rfl) (by simp) ?_
            refine AllReadyH.cons rfl (fun K hK => ?_) (AllReadyH.cons rfl (fun K hK => ?_) (AllReadyH.nil))
            · skip
              go_simp
              refine (HE1.out _).mono ?_
              rintro e u3 ⟨rfl, hb3⟩
              have hB3 : Below w4.heap.size w4 u3 := (hB2).trans (hb3.mono (hB2).size)
              have h9_3 := has2_below (b := u0.heap.size) h9_2 hb3 q9_2
              have q9_3 : u0.heap.size < u3.heap.size := Nat.lt_of_lt_of_le q9_2 hb3.size
              go_wp2_with fail
              refine hK.out _ _ (HS'.out _ (hB3)) (fun hHeld => ?_)
              clear hK K
              try simp only [Act.put, List.setIfInBounds_toArray, List.set_cons_zero, List.set_cons_succ]
              refine wpAnyH_ready (rs := [8]) (by kernel_rfl) (by simp) ?_
              refine AllReadyH.cons rfl (fun K hK => ?_) (AllReadyH.nil)
              go_simp
              go_wp2_with fail
              refine hK.out _ _ (HS'.out _ ((hB3).alloc (hB3).size _)) (fun hHeld => ?_)
              clear hK K
              try simp only [Act.put, List.setIfInBounds_toArray, List.set_cons_zero, List.set_cons_succ]
              generalize hq4 : u3.alloc (.cells #[.int .i64 0, .int .i64 0] 145) = u4
              have hb4 : Below u3.heap.size u3 u4 := by rw [← hq4]; exact (Below.refl _ _).alloc (Nat.le_refl _) _
              have hB4 : Below w4.heap.size w4 u4 := (hB3).trans (hb4.mono (hB3).size)
              have h9_4 := has2_below (b := u0.heap.size) h9_3 hb4 q9_3
              have q9_4 : u0.heap.size < u4.heap.size := Nat.lt_of_lt_of_le q9_3 hb4.size
              have h8_4 : (∀ i, i < 2 → ∃ v, u4.cell? ⟨u3.heap.size, i, none⟩ = some v) ∧ (∀ j, u4.frozen? ⟨u3.heap.size, j, none⟩ = false) := by rw [← hq4]; exact new2_is u3 _ _ _
              have q8_4 : u3.heap.size < u4.heap.size := by rw [← hq4]; simp
              have g8 : w4.heap.size ≤ u3.heap.size := (hB3).size
              clear hq4
              obtain ⟨⟨ev0, e0⟩, ⟨ev1, e1⟩⟩ := And.intro (h8_4.1 0 (by omega)) (h8_4.1 1 (by omega))
              have ef := h8_4.2
              refine wpAnyH_ready (rs := [10]) (by kernel_rfl) (by simp) ?_
              refine AllReadyH.cons rfl (fun K hK => ?_) (AllReadyH.nil)
              go_simp
              go_wp2_with fail
              refine hK.out _ _ (HS'.out _ (set2_below hB4 g8)) (fun hHeld => ?_)
              clear hK K
              try simp only [Act.put, List.setIfInBounds_toArray, List.set_cons_zero, List.set_cons_succ]
              have HH := set2_is (X := u4) (b := u3.heap.size) (.int .i64 P) (.int .i64 Q) h8_4.1 h8_4.2
              unfold set2 at HH
              have hBs : Below w4.heap.size w4 (set2 u4 u3.heap.size (.int .i64 P) (.int .i64 Q)) := set2_below hB4 g8
              unfold set2 at hBs
              generalize hs1 : (u4.setCell ⟨u3.heap.size, 0, none⟩ (.int .i64 P)).setCell ⟨u3.heap.size, 1, none⟩ (.int .i64 Q) = x1 at *
              obtain ⟨t0, t1, t5, t6, t7, t8⟩ := HH
              have hnn : u3.heap.size ≠ u0.heap.size := by omega
              have hn2 : u0.heap.size ≠ u3.heap.size := by omega
              have hs13 : (∀ i, i < 2 → ∃ v, x1.cell? ⟨u0.heap.size, i, none⟩ = some v) ∧ (∀ j, x1.frozen? ⟨u0.heap.size, j, none⟩ = false) := ⟨fun i hi => by obtain ⟨v, hv⟩ := h9_4.1 i hi; exact ⟨v, (t6 _ _ hn2).trans hv⟩, fun j => (World.frozen?_of_block (a := ⟨u0.heap.size, j, none⟩) (t7 _ hn2)).trans (h9_4.2 j)⟩
              obtain ⟨⟨av0, a0⟩, ⟨av1, a1⟩⟩ := And.intro (hs13.1 0 (by omega)) (hs13.1 1 (by omega))
              have af := hs13.2
              have k12 : u3.heap.size < x1.heap.size := by rw [t8]; exact q8_4
              have k13 : u0.heap.size < x1.heap.size := by rw [t8]; exact q9_4
              have T0 := Lib.hid t0
              have T1 := Lib.hid t1
              clear t0 t1 t5 t6 t7 t8 hs1 e0 e1 ef
              refine wpAnyH_ready (rs := [11]) (by kernel_rfl) (by simp) ?_
              refine AllReadyH.cons rfl (fun K hK => ?_) (AllReadyH.nil)
              go_simp
              go_wp2_with fail
              refine hK.out _ _ (HS'.out _ (set2_below hBs g9)) (fun hHeld => ?_)
              clear hK K
              try simp only [Act.put, List.setIfInBounds_toArray, List.set_cons_zero, List.set_cons_succ]
              refine wpAnyH_done (by kernel_rfl) ?_ _
              go_wp2_with fail
              go_meet
              exact ⟨rfl, R8.of hBs g8 k12 g9 k13 hnn T0.out T1.out hs13⟩
            · skip
              go_simp
              go_wp2_with fail
              refine hK.out _ _ (HS'.out _ ((hB2).alloc (hB2).size _)) (fun hHeld => ?_)
              clear hK K
              try simp only [Act.put, List.setIfInBounds_toArray, List.set_cons_zero, List.set_cons_succ]
              generalize hq3 : u2.alloc (.cells #[.int .i64 0, .int .i64 0] 145) = u3
              have hb3 : Below u2.heap.size u2 u3 := by rw [← hq3]; exact (Below.refl _ _).alloc (Nat.le_refl _) _
              have hB3 : Below w4.heap.size w4 u3 := (hB2).trans (hb3.mono (hB2).size)
              have h9_3 := has2_below (b := u0.heap.size) h9_2 hb3 q9_2
              have q9_3 : u0.heap.size < u3.heap.size := Nat.lt_of_lt_of_le q9_2 hb3.size
              have h8_3 : (∀ i, i < 2 → ∃ v, u3.cell? ⟨u2.heap.size, i, none⟩ = some v) ∧ (∀ j, u3.frozen? ⟨u2.heap.size, j, none⟩ = false) := by rw [← hq3]; exact new2_is u2 _ _ _
              have q8_3 : u2.heap.size < u3.heap.size := by rw [← hq3]; simp
              have g8 : w4.heap.size ≤ u2.heap.size := (hB2).size
              clear hq3
              refine wpAnyH_ready (rs := [7]) (by kernel_rfl) (by simp) ?_
              refine AllReadyH.cons rfl (fun K hK => ?_) (AllReadyH.nil)
              go_simp
              refine (HE1.out _).mono ?_
              rintro e u4 ⟨rfl, hb4⟩
              have hB4 : Below w4.heap.size w4 u4 := (hB3).trans (hb4.mono (hB3).size)
              have h9_4 := has2_below (b := u0.heap.size) h9_3 hb4 q9_3
              have q9_4 : u0.heap.size < u4.heap.size := Nat.lt_of_lt_of_le q9_3 hb4.size
              have h8_4 := has2_below (b := u2.heap.size) h8_3 hb4 q8_3
              have q8_4 : u2.heap.size < u4.heap.size := Nat.lt_of_lt_of_le q8_3 hb4.size
              go_wp2_with fail
              refine hK.out _ _ (HS'.out _ (hB4)) (fun hHeld => ?_)
              clear hK K
              try simp only [Act.put, List.setIfInBounds_toArray, List.set_cons_zero, List.set_cons_succ]
              obtain ⟨⟨ev0, e0⟩, ⟨ev1, e1⟩⟩ := And.intro (h8_4.1 0 (by omega)) (h8_4.1 1 (by omega))
              have ef := h8_4.2
              refine wpAnyH_ready (rs := [10]) (by kernel_rfl) (by simp) ?_
              refine AllReadyH.cons rfl (fun K hK => ?_) (AllReadyH.nil)
              go_simp
              go_wp2_with fail
              refine hK.out _ _ (HS'.out _ (set2_below hB4 g8)) (fun hHeld => ?_)
              clear hK K
              try simp only [Act.put, List.setIfInBounds_toArray, List.set_cons_zero, List.set_cons_succ]
              have HH := set2_is (X := u4) (b := u2.heap.size) (.int .i64 P) (.int .i64 Q) h8_4.1 h8_4.2
              unfold set2 at HH
              have hBs : Below w4.heap.size w4 (set2 u4 u2.heap.size (.int .i64 P) (.int .i64 Q)) := set2_below hB4 g8
              unfold set2 at hBs
              generalize hs1 : (u4.setCell ⟨u2.heap.size, 0, none⟩ (.int .i64 P)).setCell ⟨u2.heap.size, 1, none⟩ (.int .i64 Q) = x1 at *
              obtain ⟨t0, t1, t5, t6, t7, t8⟩ := HH
              have hnn : u2.heap.size ≠ u0.heap.size := by omega
              have hn2 : u0.heap.size ≠ u2.heap.size := by omega
              have hs13 : (∀ i, i < 2 → ∃ v, x1.cell? ⟨u0.heap.size, i, none⟩ = some v) ∧ (∀ j, x1.frozen? ⟨u0.heap.size, j, none⟩ = false) := ⟨fun i hi => by obtain ⟨v, hv⟩ := h9_4.1 i hi; exact ⟨v, (t6 _ _ hn2).trans hv⟩, fun j => (World.frozen?_of_block (a := ⟨u0.heap.size, j, none⟩) (t7 _ hn2)).trans (h9_4.2 j)⟩
              obtain ⟨⟨av0, a0⟩, ⟨av1, a1⟩⟩ := And.intro (hs13.1 0 (by omega)) (hs13.1 1 (by omega))
              have af := hs13.2
              have k12 : u2.heap.size < x1.heap.size := by rw [t8]; exact q8_4
              have k13 : u0.heap.size < x1.heap.size := by rw [t8]; exact q9_4
              have T0 := Lib.hid t0
              have T1 := Lib.hid t1
              clear t0 t1 t5 t6 t7 t8 hs1 e0 e1 ef
              refine wpAnyH_ready (rs := [11]) (by kernel_rfl) (by simp) ?_
              refine AllReadyH.cons rfl (fun K hK => ?_) (AllReadyH.nil)
              go_simp
              go_wp2_with fail
              refine hK.out _ _ (HS'.out _ (set2_below hBs g9)) (fun hHeld => ?_)
              clear hK K
              try simp only [Act.put, List.setIfInBounds_toArray, List.set_cons_zero, List.set_cons_succ]
              refine wpAnyH_done (by kernel_rfl) ?_ _
              go_wp2_with fail
              go_meet
              exact ⟨rfl, R8.of hBs g8 k12 g9 k13 hnn T0.out T1.out hs13⟩
          · skip
            go_simp
            go_wp2_with fail
            refine hK.out _ _ (HS'.out _ ((hB1).alloc (hB1).size _)) (fun hHeld => ?_)
            clear hK K
            try simp only [Act.put, List.setIfInBounds_toArray, List.set_cons_zero, List.set_cons_succ]
            generalize hq2 : u1.alloc (.cells #[.int .i64 0, .int .i64 0] 145) = u2
            have hb2 : Below u1.heap.size u1 u2 := by rw [← hq2]; exact (Below.refl _ _).alloc (Nat.le_refl _) _
            have hB2 : Below w4.heap.size w4 u2 := (hB1).trans (hb2.mono (hB1).size)
            have h9_2 := has2_below (b := u0.heap.size) h9_1 hb2 q9_1
            have q9_2 : u0.heap.size < u2.heap.size := Nat.lt_of_lt_of_le q9_1 hb2.size
            have h8_2 : (∀ i, i < 2 → ∃ v, u2.cell? ⟨u1.heap.size, i, none⟩ = some v) ∧ (∀ j, u2.frozen? ⟨u1.heap.size, j, none⟩ = false) := by rw [← hq2]; exact new2_is u1 _ _ _
            have q8_2 : u1.heap.size < u2.heap.size := by rw [← hq2]; simp
            have g8 : w4.heap.size ≤ u1.heap.size := (hB1).size
            clear hq2
            refine wpAnyH_ready (rs := [2]) (by kernel_rfl) (by simp) ?_
            refine AllReadyH.cons rfl (fun K hK => ?_) (AllReadyH.nil)
            go_simp
            refine (HL1.out _).mono ?_
            rintro e u3 ⟨rfl, hb3⟩
            have hB3 : Below w4.heap.size w4 u3 := (hB2).trans (hb3.mono (hB2).size)
            have h9_3 := has2_below (b := u0.heap.size) h9_2 hb3 q9_2
            have q9_3 : u0.heap.size < u3.heap.size := Nat.lt_of_lt_of_le q9_2 hb3.size
            have h8_3 := has2_below (b := u1.heap.size) h8_2 hb3 q8_2
            have q8_3 : u1.heap.size < u3.heap.size := Nat.lt_of_lt_of_le q8_2 hb3.size
            go_wp2_with fail
            refine hK.out _ _ (HS'.out _ (hB3)) (fun hHeld => ?_)
            clear hK K
            try simp only [Act.put, List.setIfInBounds_toArray, List.set_cons_zero, List.set_cons_succ]
            refine wpAnyH_ready (rs := [7]) (by kernel_rfl) (by simp) ?_
            refine AllReadyH.cons rfl (fun K hK => ?_) (AllReadyH.nil)
            go_simp
            refine (HE1.out _).mono ?_
            rintro e u4 ⟨rfl, hb4⟩
            have hB4 : Below w4.heap.size w4 u4 := (hB3).trans (hb4.mono (hB3).size)
            have h9_4 := has2_below (b := u0.heap.size) h9_3 hb4 q9_3
            have q9_4 : u0.heap.size < u4.heap.size := Nat.lt_of_lt_of_le q9_3 hb4.size
            have h8_4 := has2_below (b := u1.heap.size) h8_3 hb4 q8_3
            have q8_4 : u1.heap.size < u4.heap.size := Nat.lt_of_lt_of_le q8_3 hb4.size
            go_wp2_with fail
            refine hK.out _ _ (HS'.out _ (hB4)) (fun hHeld => ?_)
            clear hK K
            try simp only [Act.put, List.setIfInBounds_toArray, List.set_cons_zero, List.set_cons_succ]
            obtain ⟨⟨ev0, e0⟩, ⟨ev1, e1⟩⟩ := And.intro (h8_4.1 0 (by omega)) (h8_4.1 1 (by omega))
            have ef := h8_4.2
            refine wpAnyH_ready (rs := [10]) (by kernel_rfl) (by simp) ?_
            refine AllReadyH.cons rfl (fun K hK => ?_) (AllReadyH.nil)
            go_simp
            go_wp2_with fail
            refine hK.out _ _ (HS'.out _ (set2_below hB4 g8)) (fun hHeld => ?_)
            clear hK K
            try simp only [Act.put, List.setIfInBounds_toArray, List.set_cons_zero, List.set_cons_succ]
            have HH := set2_is (X := u4) (b := u1.heap.size) (.int .i64 P) (.int .i64 Q) h8_4.1 h8_4.2
            unfold set2 at HH
            have hBs : Below w4.heap.size w4 (set2 u4 u1.heap.size (.int .i64 P) (.int .i64 Q)) := set2_below hB4 g8
            unfold set2 at hBs
            generalize hs1 : (u4.setCell ⟨u1.heap.size, 0, none⟩ (.int .i64 P)).setCell ⟨u1.heap.size, 1, none⟩ (.int .i64 Q) = x1 at *
            obtain ⟨t0, t1, t5, t6, t7, t8⟩ := HH
            have hnn : u1.heap.size ≠ u0.heap.size := by omega
            have hn2 : u0.heap.size ≠ u1.heap.size := by omega
            have hs13 : (∀ i, i < 2 → ∃ v, x1.cell? ⟨u0.heap.size, i, none⟩ = some v) ∧ (∀ j, x1.frozen? ⟨u0.heap.size, j, none⟩ = false) := ⟨fun i hi => by obtain ⟨v, hv⟩ := h9_4.1 i hi; exact ⟨v, (t6 _ _ hn2).trans hv⟩, fun j => (World.frozen?_of_block (a := ⟨u0.heap.size, j, none⟩) (t7 _ hn2)).trans (h9_4.2 j)⟩
            obtain ⟨⟨av0, a0⟩, ⟨av1, a1⟩⟩ := And.intro (hs13.1 0 (by omega)) (hs13.1 1 (by omega))
            have af := hs13.2
            have k12 : u1.heap.size < x1.heap.size := by rw [t8]; exact q8_4
            have k13 : u0.heap.size < x1.heap.size := by rw [t8]; exact q9_4
            have T0 := Lib.hid t0
            have T1 := Lib.hid t1
            clear t0 t1 t5 t6 t7 t8 hs1 e0 e1 ef
            refine wpAnyH_ready (rs := [11]) (by kernel_rfl) (by simp) ?_
            refine AllReadyH.cons rfl (fun K hK => ?_) (AllReadyH.nil)
            go_simp
            go_wp2_with fail
            refine hK.out _ _ (HS'.out _ (set2_below hBs g9)) (fun hHeld => ?_)
            clear hK K
            try simp only [Act.put, List.setIfInBounds_toArray, List.set_cons_zero, List.set_cons_succ]
            refine wpAnyH_done (by kernel_rfl) ?_ _
            go_wp2_with fail
            go_meet
            exact ⟨rfl, R8.of hBs g8 k12 g9 k13 hnn T0.out T1.out hs13⟩
      case rest =>
      obtain ⟨rfl, b12, b13, rfl, rfl, g12, q12, g13, q13, z4, z5, z6, z7, hB5⟩ := hcut
      have zB : Below w.heap.size w wc := hB4.trans (hB5.mono hB4.size)
      have z0 := (hB5.cell (p := ⟨v1.heap.size + 1, 0, none⟩) lz4).trans G9.out.1
      have z1 := (hB5.cell (p := ⟨v1.heap.size + 1, 1, none⟩) lz4).trans G9.out.2.1
      have z2 := (hB5.cell (p := ⟨w.heap.size, 0, none⟩) lw4).trans G9.out.2.2.1
      have z3 := (hB5.cell (p := ⟨w.heap.size, 1, none⟩) lw4).trans G9.out.2.2.2
      have zf : ∀ j, wc.frozen? ⟨v1.heap.size + 1, j, none⟩ = false := fun j => (hB5.frozen (p := ⟨v1.heap.size + 1, j, none⟩) lz4).trans (F9.out.1 j)
      have zg : ∀ j, wc.frozen? ⟨w.heap.size, j, none⟩ = false := fun j => (hB5.frozen (p := ⟨w.heap.size, j, none⟩) lw4).trans (F9.out.2 j)
      have s5 := hB5.size
      have k1 : v1.heap.size + 1 < wc.heap.size := by omega
      have k2 : w.heap.size < wc.heap.size := by omega
      have nn1 : b12 ≠ v1.heap.size + 1 := by omega
      have nn2 : b13 ≠ v1.heap.size + 1 := by omega
      have nn3 : b12 ≠ w.heap.size := by omega
      have nn4 : b13 ≠ w.heap.size := by omega
      obtain ⟨wd, hwd⟩ : ∃ V, V = wc := ⟨_, rfl⟩
      rw [← hwd] at z0 z1 z2 z3 z4 z5 z6 z7 zf zg zB q12 q13 k1 k2
      rw [← hwd]
      clear hwd hB5 hB4 G9 F9 e0 e1 e2 e3 d0 d1 d2 d3 g12 g13 s5 HL1 HE1 l11 mq llt plt lz lw lz4 lw4
      go_upto_region 9 with (fail)
      go_cut [27] from 27 to 56 (fun s27 wx => s27 = .int .i64 k ∧ wx.cell? ⟨v1.heap.size + 1, 0, none⟩ = some (.int .i64 (max lo M0)) ∧ wx.cell? ⟨v1.heap.size + 1, 1, none⟩ = some (.int .i64 hi) ∧ wx.cell? ⟨w.heap.size, 0, none⟩ = some (.int .i64 0) ∧ wx.cell? ⟨w.heap.size, 1, none⟩ = some (.int .i64 0) ∧ wx.cell? ⟨b12, 0, none⟩ = some (.int .i64 P) ∧ wx.cell? ⟨b12, 1, none⟩ = some (.int .i64 Q) ∧ wx.cell? ⟨b13, 0, none⟩ = some (.int .i64 X) ∧ wx.cell? ⟨b13, 1, none⟩ = some (.int .i64 Y) ∧ (∀ j, wx.frozen? ⟨v1.heap.size + 1, j, none⟩ = false) ∧ (∀ j, wx.frozen? ⟨w.heap.size, j, none⟩ = false) ∧ v1.heap.size + 1 < wx.heap.size ∧ b12 < wx.heap.size ∧ b13 < wx.heap.size ∧ Below w.heap.size w wx)
      case first =>
        by_cases hlt : lo < M0
        · have hmx : max lo M0 = M0 := by omega
          refine wp_region_Z (S := (fun w' => w'.cell? ⟨v1.heap.size + 1, 0, none⟩ = some (.int .i64 lo) ∧ w'.cell? ⟨b12, 0, none⟩ = some (.int .i64 P) ∧ w'.cell? ⟨b12, 1, none⟩ = some (.int .i64 Q) ∧ w'.cell? ⟨b13, 0, none⟩ = some (.int .i64 X))) 8 (by kernel_rfl) (by kernel_rfl) (by kernel_rfl) (by simp [go_sem, World.cell?_alloc_past, *]) (fun hHeld => ?_)
          refine wpAnyZ_take (i := 0) (oi := ⟨some 40, _, _, _, _, _⟩) (v := ?_) (by kernel_rfl) (by kernel_rfl) rfl rfl (by kernel_rfl) (by kernel_rfl) (by kernel_rfl) (fun _ _ _ h => h) (Or.inl ⟨by kernel_rfl, ?_⟩) (by assumption) ?_
          rotate_left
          · (intro w hSw; (try dsimp only at hSw); go_simp; all_goals with_reducible rfl)
          try simp only [Act.put, List.setIfInBounds_toArray, List.set_cons_zero, List.set_cons_succ]
          refine wpAnyZ_take (i := 1) (oi := ⟨some 41, _, _, _, _, _⟩) (v := ?_) (by kernel_rfl) (by kernel_rfl) rfl rfl (by kernel_rfl) (by kernel_rfl) (by kernel_rfl) (fun _ _ _ h => h) (Or.inl ⟨by kernel_rfl, ?_⟩) (by assumption) ?_
          rotate_left
          · (intro w hSw; (try dsimp only at hSw); go_simp; all_goals with_reducible rfl)
          try simp only [Act.put, List.setIfInBounds_toArray, List.set_cons_zero, List.set_cons_succ]
          refine wpAnyZ_take (i := 2) (oi := ⟨some 42, _, _, _, _, _⟩) (v := ?_) (by kernel_rfl) (by kernel_rfl) rfl rfl (by kernel_rfl) (by kernel_rfl) (by kernel_rfl) (fun _ _ _ h => h) (Or.inl ⟨by kernel_rfl, ?_⟩) (by assumption) ?_
          rotate_left
          · (intro w hSw; (try dsimp only at hSw); go_simp; all_goals with_reducible rfl)
          try simp only [Act.put, List.setIfInBounds_toArray, List.set_cons_zero, List.set_cons_succ]
          refine wpAnyZ_take (i := 3) (oi := ⟨some 43, _, _, _, _, _⟩) (v := ?_) (by kernel_rfl) (by kernel_rfl) rfl rfl (by kernel_rfl) (by kernel_rfl) (by kernel_rfl) (fun _ _ _ h => h) (Or.inl ⟨by kernel_rfl, ?_⟩) (by assumption) ?_
          rotate_left
          · (intro w hSw; (try dsimp only at hSw); go_simp; all_goals with_reducible rfl)
          try simp only [Act.put, List.setIfInBounds_toArray, List.set_cons_zero, List.set_cons_succ]
          refine wpAnyZ_take (i := 4) (oi := ⟨some 44, _, _, _, _, _⟩) (v := ?_) (by kernel_rfl) (by kernel_rfl) rfl rfl (by kernel_rfl) (by kernel_rfl) (by kernel_rfl) (fun _ _ _ h => h) (Or.inl ⟨by kernel_rfl, ?_⟩) (by assumption) ?_
          rotate_left
          · (intro w hSw; (try dsimp only at hSw); go_simp; all_goals with_reducible rfl)
          try simp only [Act.put, List.setIfInBounds_toArray, List.set_cons_zero, List.set_cons_succ]
          refine wpAnyZ_call (q := 5) (by kernel_rfl) rfl rfl (fun K hK => ?_)
          go_simp
          refine (HC0.out _).mono ?_
          rintro e x9 ⟨rfl, hb1⟩
          have zs1 := hb1.size
          try simp at zs1
          have y0 : x9.cell? ⟨v1.heap.size + 1, 0, none⟩ = some (.int .i64 lo) := by rw [(bcell hb1).1 _ _ (by first | (simp; done) | (simp; omega) | omega)]; simp [go_sem, World.cell?_alloc_past, *]
          have y1 : x9.cell? ⟨v1.heap.size + 1, 1, none⟩ = some (.int .i64 hi) := by rw [(bcell hb1).1 _ _ (by first | (simp; done) | (simp; omega) | omega)]; simp [go_sem, World.cell?_alloc_past, *]
          have y2 : x9.cell? ⟨w.heap.size, 0, none⟩ = some (.int .i64 0) := by rw [(bcell hb1).1 _ _ (by first | (simp; done) | (simp; omega) | omega)]; simp [go_sem, World.cell?_alloc_past, *]
          have y3 : x9.cell? ⟨w.heap.size, 1, none⟩ = some (.int .i64 0) := by rw [(bcell hb1).1 _ _ (by first | (simp; done) | (simp; omega) | omega)]; simp [go_sem, World.cell?_alloc_past, *]
          have y4 : x9.cell? ⟨b12, 0, none⟩ = some (.int .i64 P) := by rw [(bcell hb1).1 _ _ (by first | (simp; done) | (simp; omega) | omega)]; simp [go_sem, World.cell?_alloc_past, *]
          have y5 : x9.cell? ⟨b12, 1, none⟩ = some (.int .i64 Q) := by rw [(bcell hb1).1 _ _ (by first | (simp; done) | (simp; omega) | omega)]; simp [go_sem, World.cell?_alloc_past, *]
          have y6 : x9.cell? ⟨b13, 0, none⟩ = some (.int .i64 X) := by rw [(bcell hb1).1 _ _ (by first | (simp; done) | (simp; omega) | omega)]; simp [go_sem, World.cell?_alloc_past, *]
          have y7 : x9.cell? ⟨b13, 1, none⟩ = some (.int .i64 Y) := by rw [(bcell hb1).1 _ _ (by first | (simp; done) | (simp; omega) | omega)]; simp [go_sem, World.cell?_alloc_past, *]
          have yf : ∀ j, x9.frozen? ⟨v1.heap.size + 1, j, none⟩ = false := fun j => by rw [(bcell hb1).2 _ _ (by first | (simp; done) | (simp; omega) | omega)]; simp [go_sem, *]
          have yg : ∀ j, x9.frozen? ⟨w.heap.size, j, none⟩ = false := fun j => by rw [(bcell hb1).2 _ _ (by first | (simp; done) | (simp; omega) | omega)]; simp [go_sem, *]
          have l1 : v1.heap.size + 1 < x9.heap.size := by omega
          have l2 : w.heap.size < x9.heap.size := by omega
          have l3 : b12 < x9.heap.size := by omega
          have l4 : b13 < x9.heap.size := by omega
          have hB1 : Below w.heap.size w x9 := (by (repeat (first | (with_reducible refine Below.drew ?_) | (with_reducible refine below_drewN ?_ _) | (with_reducible refine Below.alloc ?_ (by first | omega | (simp; done) | (simp; omega) | (simp at *; omega)) _) | (with_reducible refine Below.setCell ?_ (by first | omega | (simp; done) | (simp; omega) | (simp at *; omega)) _) | (with_reducible exact Below.refl _ _) | (with_reducible assumption) | (with_reducible refine Below.trans ?_ (Below.mono (by assumption) (by first | omega | (simp; done) | (simp; omega) | (simp at *; omega)))))))
          clear hb1 z0 z1 z2 z3 z4 z5 z6 z7 zf zg zB
          go_wp2_with fail
          refine hK.out _ _ (by simp [go_sem, World.cell?_alloc_past, *]) (fun hHeld => ?_)
          clear hK K
          try simp only [Act.put, List.setIfInBounds_toArray, List.set_cons_zero, List.set_cons_succ]
          refine wpAnyZ_call (q := 6) (by kernel_rfl) rfl rfl (fun K hK => ?_)
          go_simp
          go_wp2_with fail
          refine hK.out _ _ (by simp [go_sem, World.cell?_alloc_past, *]) (fun hHeld => ?_)
          clear hK K
          try simp only [Act.put, List.setIfInBounds_toArray, List.set_cons_zero, List.set_cons_succ]
          refine wpAnyZ_take (i := 7) (oi := ⟨some 47, _, _, _, _, _⟩) (v := ?_) (by kernel_rfl) (by kernel_rfl) rfl rfl (by kernel_rfl) (by kernel_rfl) (by kernel_rfl) (fun _ _ _ h => h) (Or.inl ⟨by kernel_rfl, ?_⟩) (by assumption) ?_
          rotate_left
          · (intro w hSw; (try dsimp only at hSw); go_simp; all_goals with_reducible rfl)
          try simp only [Act.put, List.setIfInBounds_toArray, List.set_cons_zero, List.set_cons_succ]
          refine wpAnyZ_last (by kernel_rfl) rfl (fun K hK => ?_)
          go_simp
          go_wp2_with fail
          refine hK.out _ _ ?_
          clear hK K
          try simp only [Act.put, List.setIfInBounds_toArray, List.set_cons_zero, List.set_cons_succ]
          go_wp2_with fail
          go_meet
          exact ⟨rfl, by rw [hmx]; simp [go_sem, World.cell?_alloc_past, *], by simp [go_sem, World.cell?_alloc_past, *], by simp [go_sem, World.cell?_alloc_past, *], by simp [go_sem, World.cell?_alloc_past, *], by simp [go_sem, World.cell?_alloc_past, *], by simp [go_sem, World.cell?_alloc_past, *], by simp [go_sem, World.cell?_alloc_past, *], by simp [go_sem, World.cell?_alloc_past, *], by intro j; simp [go_sem, *], by intro j; simp [go_sem, *], by first | omega | (simp; done) | (simp; omega), by first | omega | (simp; done) | (simp; omega), by first | omega | (simp; done) | (simp; omega), (by (repeat (first | (with_reducible refine Below.drew ?_) | (with_reducible refine below_drewN ?_ _) | (with_reducible refine Below.alloc ?_ (by first | omega | (simp; done) | (simp; omega) | (simp at *; omega)) _) | (with_reducible refine Below.setCell ?_ (by first | omega | (simp; done) | (simp; omega) | (simp at *; omega)) _) | (with_reducible exact Below.refl _ _) | (with_reducible assumption) | (with_reducible refine Below.trans ?_ (Below.mono (by assumption) (by first | omega | (simp; done) | (simp; omega) | (simp at *; omega)))))))⟩
        · have hlt' : M0 ≤ lo := by omega
          have hmx : max lo M0 = lo := by omega
          refine wp_region_Z (S := (fun w' => w'.cell? ⟨v1.heap.size + 1, 0, none⟩ = some (.int .i64 lo) ∧ w'.cell? ⟨b12, 0, none⟩ = some (.int .i64 P) ∧ w'.cell? ⟨b12, 1, none⟩ = some (.int .i64 Q) ∧ w'.cell? ⟨b13, 0, none⟩ = some (.int .i64 X))) 8 (by kernel_rfl) (by kernel_rfl) (by kernel_rfl) (by simp [go_sem, World.cell?_alloc_past, *]) (fun hHeld => ?_)
          refine wpAnyZ_take (i := 0) (oi := ⟨some 40, _, _, _, _, _⟩) (v := ?_) (by kernel_rfl) (by kernel_rfl) rfl rfl (by kernel_rfl) (by kernel_rfl) (by kernel_rfl) (fun _ _ _ h => h) (Or.inl ⟨by kernel_rfl, ?_⟩) (by assumption) ?_
          rotate_left
          · (intro w hSw; (try dsimp only at hSw); go_simp; all_goals with_reducible rfl)
          try simp only [Act.put, List.setIfInBounds_toArray, List.set_cons_zero, List.set_cons_succ]
          refine wpAnyZ_take (i := 1) (oi := ⟨some 41, _, _, _, _, _⟩) (v := ?_) (by kernel_rfl) (by kernel_rfl) rfl rfl (by kernel_rfl) (by kernel_rfl) (by kernel_rfl) (fun _ _ _ h => h) (Or.inl ⟨by kernel_rfl, ?_⟩) (by assumption) ?_
          rotate_left
          · (intro w hSw; (try dsimp only at hSw); go_simp; all_goals with_reducible rfl)
          try simp only [Act.put, List.setIfInBounds_toArray, List.set_cons_zero, List.set_cons_succ]
          refine wpAnyZ_take (i := 2) (oi := ⟨some 42, _, _, _, _, _⟩) (v := ?_) (by kernel_rfl) (by kernel_rfl) rfl rfl (by kernel_rfl) (by kernel_rfl) (by kernel_rfl) (fun _ _ _ h => h) (Or.inl ⟨by kernel_rfl, ?_⟩) (by assumption) ?_
          rotate_left
          · (intro w hSw; (try dsimp only at hSw); go_simp; all_goals with_reducible rfl)
          try simp only [Act.put, List.setIfInBounds_toArray, List.set_cons_zero, List.set_cons_succ]
          refine wpAnyZ_take (i := 3) (oi := ⟨some 43, _, _, _, _, _⟩) (v := ?_) (by kernel_rfl) (by kernel_rfl) rfl rfl (by kernel_rfl) (by kernel_rfl) (by kernel_rfl) (fun _ _ _ h => h) (Or.inl ⟨by kernel_rfl, ?_⟩) (by assumption) ?_
          rotate_left
          · (intro w hSw; (try dsimp only at hSw); go_simp; all_goals with_reducible rfl)
          try simp only [Act.put, List.setIfInBounds_toArray, List.set_cons_zero, List.set_cons_succ]
          refine wpAnyZ_take (i := 4) (oi := ⟨some 44, _, _, _, _, _⟩) (v := ?_) (by kernel_rfl) (by kernel_rfl) rfl rfl (by kernel_rfl) (by kernel_rfl) (by kernel_rfl) (fun _ _ _ h => h) (Or.inl ⟨by kernel_rfl, ?_⟩) (by assumption) ?_
          rotate_left
          · (intro w hSw; (try dsimp only at hSw); go_simp; all_goals with_reducible rfl)
          try simp only [Act.put, List.setIfInBounds_toArray, List.set_cons_zero, List.set_cons_succ]
          refine wpAnyZ_call (q := 5) (by kernel_rfl) rfl rfl (fun K hK => ?_)
          go_simp
          refine (HC0.out _).mono ?_
          rintro e x9 ⟨rfl, hb1⟩
          have zs1 := hb1.size
          try simp at zs1
          have y0 : x9.cell? ⟨v1.heap.size + 1, 0, none⟩ = some (.int .i64 lo) := by rw [(bcell hb1).1 _ _ (by first | (simp; done) | (simp; omega) | omega)]; simp [go_sem, World.cell?_alloc_past, *]
          have y1 : x9.cell? ⟨v1.heap.size + 1, 1, none⟩ = some (.int .i64 hi) := by rw [(bcell hb1).1 _ _ (by first | (simp; done) | (simp; omega) | omega)]; simp [go_sem, World.cell?_alloc_past, *]
          have y2 : x9.cell? ⟨w.heap.size, 0, none⟩ = some (.int .i64 0) := by rw [(bcell hb1).1 _ _ (by first | (simp; done) | (simp; omega) | omega)]; simp [go_sem, World.cell?_alloc_past, *]
          have y3 : x9.cell? ⟨w.heap.size, 1, none⟩ = some (.int .i64 0) := by rw [(bcell hb1).1 _ _ (by first | (simp; done) | (simp; omega) | omega)]; simp [go_sem, World.cell?_alloc_past, *]
          have y4 : x9.cell? ⟨b12, 0, none⟩ = some (.int .i64 P) := by rw [(bcell hb1).1 _ _ (by first | (simp; done) | (simp; omega) | omega)]; simp [go_sem, World.cell?_alloc_past, *]
          have y5 : x9.cell? ⟨b12, 1, none⟩ = some (.int .i64 Q) := by rw [(bcell hb1).1 _ _ (by first | (simp; done) | (simp; omega) | omega)]; simp [go_sem, World.cell?_alloc_past, *]
          have y6 : x9.cell? ⟨b13, 0, none⟩ = some (.int .i64 X) := by rw [(bcell hb1).1 _ _ (by first | (simp; done) | (simp; omega) | omega)]; simp [go_sem, World.cell?_alloc_past, *]
          have y7 : x9.cell? ⟨b13, 1, none⟩ = some (.int .i64 Y) := by rw [(bcell hb1).1 _ _ (by first | (simp; done) | (simp; omega) | omega)]; simp [go_sem, World.cell?_alloc_past, *]
          have yf : ∀ j, x9.frozen? ⟨v1.heap.size + 1, j, none⟩ = false := fun j => by rw [(bcell hb1).2 _ _ (by first | (simp; done) | (simp; omega) | omega)]; simp [go_sem, *]
          have yg : ∀ j, x9.frozen? ⟨w.heap.size, j, none⟩ = false := fun j => by rw [(bcell hb1).2 _ _ (by first | (simp; done) | (simp; omega) | omega)]; simp [go_sem, *]
          have l1 : v1.heap.size + 1 < x9.heap.size := by omega
          have l2 : w.heap.size < x9.heap.size := by omega
          have l3 : b12 < x9.heap.size := by omega
          have l4 : b13 < x9.heap.size := by omega
          have hB1 : Below w.heap.size w x9 := (by (repeat (first | (with_reducible refine Below.drew ?_) | (with_reducible refine below_drewN ?_ _) | (with_reducible refine Below.alloc ?_ (by first | omega | (simp; done) | (simp; omega) | (simp at *; omega)) _) | (with_reducible refine Below.setCell ?_ (by first | omega | (simp; done) | (simp; omega) | (simp at *; omega)) _) | (with_reducible exact Below.refl _ _) | (with_reducible assumption) | (with_reducible refine Below.trans ?_ (Below.mono (by assumption) (by first | omega | (simp; done) | (simp; omega) | (simp at *; omega)))))))
          clear hb1 z0 z1 z2 z3 z4 z5 z6 z7 zf zg zB
          go_wp2_with fail
          refine hK.out _ _ (by simp [go_sem, World.cell?_alloc_past, *]) (fun hHeld => ?_)
          clear hK K
          try simp only [Act.put, List.setIfInBounds_toArray, List.set_cons_zero, List.set_cons_succ]
          refine wpAnyZ_call (q := 6) (by kernel_rfl) rfl rfl (fun K hK => ?_)
          go_simp
          go_wp2_with fail
          refine hK.out _ _ (by simp [go_sem, World.cell?_alloc_past, *]) (fun hHeld => ?_)
          clear hK K
          try simp only [Act.put, List.setIfInBounds_toArray, List.set_cons_zero, List.set_cons_succ]
          refine wpAnyZ_take (i := 7) (oi := ⟨some 47, _, _, _, _, _⟩) (v := ?_) (by kernel_rfl) (by kernel_rfl) rfl rfl (by kernel_rfl) (by kernel_rfl) (by kernel_rfl) (fun _ _ _ h => h) (Or.inl ⟨by kernel_rfl, ?_⟩) (by assumption) ?_
          rotate_left
          · (intro w hSw; (try dsimp only at hSw); go_simp; all_goals with_reducible rfl)
          try simp only [Act.put, List.setIfInBounds_toArray, List.set_cons_zero, List.set_cons_succ]
          refine wpAnyZ_last (by kernel_rfl) rfl (fun K hK => ?_)
          go_simp
          go_wp2_with fail
          refine hK.out _ _ ?_
          clear hK K
          try simp only [Act.put, List.setIfInBounds_toArray, List.set_cons_zero, List.set_cons_succ]
          go_wp2_with fail
          go_meet
          exact ⟨rfl, by rw [hmx]; simp [go_sem, World.cell?_alloc_past, *], by simp [go_sem, World.cell?_alloc_past, *], by simp [go_sem, World.cell?_alloc_past, *], by simp [go_sem, World.cell?_alloc_past, *], by simp [go_sem, World.cell?_alloc_past, *], by simp [go_sem, World.cell?_alloc_past, *], by simp [go_sem, World.cell?_alloc_past, *], by simp [go_sem, World.cell?_alloc_past, *], by intro j; simp [go_sem, *], by intro j; simp [go_sem, *], by first | omega | (simp; done) | (simp; omega), by first | omega | (simp; done) | (simp; omega), by first | omega | (simp; done) | (simp; omega), (by (repeat (first | (with_reducible refine Below.drew ?_) | (with_reducible refine below_drewN ?_ _) | (with_reducible refine Below.alloc ?_ (by first | omega | (simp; done) | (simp; omega) | (simp at *; omega)) _) | (with_reducible refine Below.setCell ?_ (by first | omega | (simp; done) | (simp; omega) | (simp at *; omega)) _) | (with_reducible exact Below.refl _ _) | (with_reducible assumption) | (with_reducible refine Below.trans ?_ (Below.mono (by assumption) (by first | omega | (simp; done) | (simp; omega) | (simp at *; omega)))))))⟩
      case rest =>
      clear z0 z1 z2 z3 z4 z5 z6 z7 zf zg zB k1 k2 q12 q13
      obtain ⟨rfl, u0, u1, u2, u3, u4, u5, u6, u7, uf, ug, k1, q12, q13, uB⟩ := hcut
      have k2 : w.heap.size < wc.heap.size := by omega
      obtain ⟨we, hwe⟩ : ∃ V, V = wc := ⟨_, rfl⟩
      rw [← hwe] at u0 u1 u2 u3 u4 u5 u6 u7 uf ug k1 q12 q13 uB k2
      rw [← hwe]
      clear hwe
      obtain ⟨N0, hN0⟩ : ∃ z, Hid (max lo M0 = z) := ⟨_, Lib.hid rfl⟩
      rw [hN0.out] at u0
      rw [hN0.out] at HST
      go_upto_region 10 with (fail)
      by_cases hlt : hi < M1
      · have hmx : max hi M1 = M1 := by omega
        refine wp_region_Z (S := (fun w' => w'.cell? ⟨v1.heap.size + 1, 1, none⟩ = some (.int .i64 hi) ∧ w'.cell? ⟨b12, 0, none⟩ = some (.int .i64 P) ∧ w'.cell? ⟨b12, 1, none⟩ = some (.int .i64 Q) ∧ w'.cell? ⟨b13, 1, none⟩ = some (.int .i64 Y))) 8 (by kernel_rfl) (by kernel_rfl) (by kernel_rfl) (by simp [go_sem, World.cell?_alloc_past, *]) (fun hHeld => ?_)
        refine wpAnyZ_take (i := 0) (oi := ⟨some 48, _, _, _, _, _⟩) (v := ?_) (by kernel_rfl) (by kernel_rfl) rfl rfl (by kernel_rfl) (by kernel_rfl) (by kernel_rfl) (fun _ _ _ h => h) (Or.inl ⟨by kernel_rfl, ?_⟩) (by assumption) ?_
        rotate_left
        · (intro w hSw; (try dsimp only at hSw); go_simp; all_goals with_reducible rfl)
        try simp only [Act.put, List.setIfInBounds_toArray, List.set_cons_zero, List.set_cons_succ]
        refine wpAnyZ_take (i := 1) (oi := ⟨some 49, _, _, _, _, _⟩) (v := ?_) (by kernel_rfl) (by kernel_rfl) rfl rfl (by kernel_rfl) (by kernel_rfl) (by kernel_rfl) (fun _ _ _ h => h) (Or.inl ⟨by kernel_rfl, ?_⟩) (by assumption) ?_
        rotate_left
        · (intro w hSw; (try dsimp only at hSw); go_simp; all_goals with_reducible rfl)
        try simp only [Act.put, List.setIfInBounds_toArray, List.set_cons_zero, List.set_cons_succ]
        refine wpAnyZ_take (i := 2) (oi := ⟨some 50, _, _, _, _, _⟩) (v := ?_) (by kernel_rfl) (by kernel_rfl) rfl rfl (by kernel_rfl) (by kernel_rfl) (by kernel_rfl) (fun _ _ _ h => h) (Or.inl ⟨by kernel_rfl, ?_⟩) (by assumption) ?_
        rotate_left
        · (intro w hSw; (try dsimp only at hSw); go_simp; all_goals with_reducible rfl)
        try simp only [Act.put, List.setIfInBounds_toArray, List.set_cons_zero, List.set_cons_succ]
        refine wpAnyZ_take (i := 3) (oi := ⟨some 51, _, _, _, _, _⟩) (v := ?_) (by kernel_rfl) (by kernel_rfl) rfl rfl (by kernel_rfl) (by kernel_rfl) (by kernel_rfl) (fun _ _ _ h => h) (Or.inl ⟨by kernel_rfl, ?_⟩) (by assumption) ?_
        rotate_left
        · (intro w hSw; (try dsimp only at hSw); go_simp; all_goals with_reducible rfl)
        try simp only [Act.put, List.setIfInBounds_toArray, List.set_cons_zero, List.set_cons_succ]
        refine wpAnyZ_take (i := 4) (oi := ⟨some 52, _, _, _, _, _⟩) (v := ?_) (by kernel_rfl) (by kernel_rfl) rfl rfl (by kernel_rfl) (by kernel_rfl) (by kernel_rfl) (fun _ _ _ h => h) (Or.inl ⟨by kernel_rfl, ?_⟩) (by assumption) ?_
        rotate_left
        · (intro w hSw; (try dsimp only at hSw); go_simp; all_goals with_reducible rfl)
        try simp only [Act.put, List.setIfInBounds_toArray, List.set_cons_zero, List.set_cons_succ]
        refine wpAnyZ_call (q := 5) (by kernel_rfl) rfl rfl (fun K hK => ?_)
        go_simp
        refine (HC1.out _).mono ?_
        rintro e x9 ⟨rfl, hb1⟩
        have zs1 := hb1.size
        try simp at zs1
        have y0 : x9.cell? ⟨v1.heap.size + 1, 0, none⟩ = some (.int .i64 N0) := by rw [(bcell hb1).1 _ _ (by first | (simp; done) | (simp; omega) | omega)]; simp [go_sem, World.cell?_alloc_past, *]
        have y1 : x9.cell? ⟨v1.heap.size + 1, 1, none⟩ = some (.int .i64 hi) := by rw [(bcell hb1).1 _ _ (by first | (simp; done) | (simp; omega) | omega)]; simp [go_sem, World.cell?_alloc_past, *]
        have y2 : x9.cell? ⟨w.heap.size, 0, none⟩ = some (.int .i64 0) := by rw [(bcell hb1).1 _ _ (by first | (simp; done) | (simp; omega) | omega)]; simp [go_sem, World.cell?_alloc_past, *]
        have y3 : x9.cell? ⟨w.heap.size, 1, none⟩ = some (.int .i64 0) := by rw [(bcell hb1).1 _ _ (by first | (simp; done) | (simp; omega) | omega)]; simp [go_sem, World.cell?_alloc_past, *]
        have y4 : x9.cell? ⟨b12, 0, none⟩ = some (.int .i64 P) := by rw [(bcell hb1).1 _ _ (by first | (simp; done) | (simp; omega) | omega)]; simp [go_sem, World.cell?_alloc_past, *]
        have y5 : x9.cell? ⟨b12, 1, none⟩ = some (.int .i64 Q) := by rw [(bcell hb1).1 _ _ (by first | (simp; done) | (simp; omega) | omega)]; simp [go_sem, World.cell?_alloc_past, *]
        have y6 : x9.cell? ⟨b13, 0, none⟩ = some (.int .i64 X) := by rw [(bcell hb1).1 _ _ (by first | (simp; done) | (simp; omega) | omega)]; simp [go_sem, World.cell?_alloc_past, *]
        have y7 : x9.cell? ⟨b13, 1, none⟩ = some (.int .i64 Y) := by rw [(bcell hb1).1 _ _ (by first | (simp; done) | (simp; omega) | omega)]; simp [go_sem, World.cell?_alloc_past, *]
        have yf : ∀ j, x9.frozen? ⟨v1.heap.size + 1, j, none⟩ = false := fun j => by rw [(bcell hb1).2 _ _ (by first | (simp; done) | (simp; omega) | omega)]; simp [go_sem, *]
        have yg : ∀ j, x9.frozen? ⟨w.heap.size, j, none⟩ = false := fun j => by rw [(bcell hb1).2 _ _ (by first | (simp; done) | (simp; omega) | omega)]; simp [go_sem, *]
        have l1 : v1.heap.size + 1 < x9.heap.size := by omega
        have l2 : w.heap.size < x9.heap.size := by omega
        have l3 : b12 < x9.heap.size := by omega
        have l4 : b13 < x9.heap.size := by omega
        have hB1 : Below w.heap.size w x9 := (by (repeat (first | (with_reducible refine Below.drew ?_) | (with_reducible refine below_drewN ?_ _) | (with_reducible refine Below.alloc ?_ (by first | omega | (simp; done) | (simp; omega) | (simp at *; omega)) _) | (with_reducible refine Below.setCell ?_ (by first | omega | (simp; done) | (simp; omega) | (simp at *; omega)) _) | (with_reducible exact Below.refl _ _) | (with_reducible assumption) | (with_reducible refine Below.trans ?_ (Below.mono (by assumption) (by first | omega | (simp; done) | (simp; omega) | (simp at *; omega)))))))
        clear hb1 u0 u1 u2 u3 u4 u5 u6 u7 uf ug uB
        go_wp2_with fail
        refine hK.out _ _ (by simp [go_sem, World.cell?_alloc_past, *]) (fun hHeld => ?_)
        clear hK K
        try simp only [Act.put, List.setIfInBounds_toArray, List.set_cons_zero, List.set_cons_succ]
        refine wpAnyZ_call (q := 6) (by kernel_rfl) rfl rfl (fun K hK => ?_)
        go_simp
        go_wp2_with fail
        refine hK.out _ _ (by simp [go_sem, World.cell?_alloc_past, *]) (fun hHeld => ?_)
        clear hK K
        try simp only [Act.put, List.setIfInBounds_toArray, List.set_cons_zero, List.set_cons_succ]
        refine wpAnyZ_take (i := 7) (oi := ⟨some 55, _, _, _, _, _⟩) (v := ?_) (by kernel_rfl) (by kernel_rfl) rfl rfl (by kernel_rfl) (by kernel_rfl) (by kernel_rfl) (fun _ _ _ h => h) (Or.inl ⟨by kernel_rfl, ?_⟩) (by assumption) ?_
        rotate_left
        · (intro w hSw; (try dsimp only at hSw); go_simp; all_goals with_reducible rfl)
        try simp only [Act.put, List.setIfInBounds_toArray, List.set_cons_zero, List.set_cons_succ]
        refine wpAnyZ_last (by kernel_rfl) rfl (fun K hK => ?_)
        go_simp
        go_wp2_with fail
        refine hK.out _ _ ?_
        clear hK K
        try simp only [Act.put, List.setIfInBounds_toArray, List.set_cons_zero, List.set_cons_succ]
        go_wp2
        go_roundw
        case rel => exact ⟨k + 1, N0, max hi M1, by omega, by go_num, HST.out.symm, by simp [go_sem, World.cell?_alloc_past, *], by rw [hmx]; simp [go_sem, World.cell?_alloc_past, *], by intro j; simp [go_sem, *], by simp [go_sem, World.cell?_alloc_past, *], by simp [go_sem, World.cell?_alloc_past, *], by intro j; simp [go_sem, *], by first | omega | (simp; done) | (simp; omega), (by (repeat (first | (with_reducible refine Below.drew ?_) | (with_reducible refine below_drewN ?_ _) | (with_reducible refine Below.alloc ?_ (by first | omega | (simp; done) | (simp; omega) | (simp at *; omega)) _) | (with_reducible refine Below.setCell ?_ (by first | omega | (simp; done) | (simp; omega) | (simp at *; omega)) _) | (with_reducible exact Below.refl _ _) | (with_reducible assumption) | (with_reducible refine Below.trans ?_ (Below.mono (by assumption) (by first | omega | (simp; done) | (simp; omega) | (simp at *; omega)))))))⟩
        case measure => (simp [intOf]) <;> omega
      · have hlt' : M1 ≤ hi := by omega
        have hmx : max hi M1 = hi := by omega
        refine wp_region_Z (S := (fun w' => w'.cell? ⟨v1.heap.size + 1, 1, none⟩ = some (.int .i64 hi) ∧ w'.cell? ⟨b12, 0, none⟩ = some (.int .i64 P) ∧ w'.cell? ⟨b12, 1, none⟩ = some (.int .i64 Q) ∧ w'.cell? ⟨b13, 1, none⟩ = some (.int .i64 Y))) 8 (by kernel_rfl) (by kernel_rfl) (by kernel_rfl) (by simp [go_sem, World.cell?_alloc_past, *]) (fun hHeld => ?_)
        refine wpAnyZ_take (i := 0) (oi := ⟨some 48, _, _, _, _, _⟩) (v := ?_) (by kernel_rfl) (by kernel_rfl) rfl rfl (by kernel_rfl) (by kernel_rfl) (by kernel_rfl) (fun _ _ _ h => h) (Or.inl ⟨by kernel_rfl, ?_⟩) (by assumption) ?_
        rotate_left
        · (intro w hSw; (try dsimp only at hSw); go_simp; all_goals with_reducible rfl)
        try simp only [Act.put, List.setIfInBounds_toArray, List.set_cons_zero, List.set_cons_succ]
        refine wpAnyZ_take (i := 1) (oi := ⟨some 49, _, _, _, _, _⟩) (v := ?_) (by kernel_rfl) (by kernel_rfl) rfl rfl (by kernel_rfl) (by kernel_rfl) (by kernel_rfl) (fun _ _ _ h => h) (Or.inl ⟨by kernel_rfl, ?_⟩) (by assumption) ?_
        rotate_left
        · (intro w hSw; (try dsimp only at hSw); go_simp; all_goals with_reducible rfl)
        try simp only [Act.put, List.setIfInBounds_toArray, List.set_cons_zero, List.set_cons_succ]
        refine wpAnyZ_take (i := 2) (oi := ⟨some 50, _, _, _, _, _⟩) (v := ?_) (by kernel_rfl) (by kernel_rfl) rfl rfl (by kernel_rfl) (by kernel_rfl) (by kernel_rfl) (fun _ _ _ h => h) (Or.inl ⟨by kernel_rfl, ?_⟩) (by assumption) ?_
        rotate_left
        · (intro w hSw; (try dsimp only at hSw); go_simp; all_goals with_reducible rfl)
        try simp only [Act.put, List.setIfInBounds_toArray, List.set_cons_zero, List.set_cons_succ]
        refine wpAnyZ_take (i := 3) (oi := ⟨some 51, _, _, _, _, _⟩) (v := ?_) (by kernel_rfl) (by kernel_rfl) rfl rfl (by kernel_rfl) (by kernel_rfl) (by kernel_rfl) (fun _ _ _ h => h) (Or.inl ⟨by kernel_rfl, ?_⟩) (by assumption) ?_
        rotate_left
        · (intro w hSw; (try dsimp only at hSw); go_simp; all_goals with_reducible rfl)
        try simp only [Act.put, List.setIfInBounds_toArray, List.set_cons_zero, List.set_cons_succ]
        refine wpAnyZ_take (i := 4) (oi := ⟨some 52, _, _, _, _, _⟩) (v := ?_) (by kernel_rfl) (by kernel_rfl) rfl rfl (by kernel_rfl) (by kernel_rfl) (by kernel_rfl) (fun _ _ _ h => h) (Or.inl ⟨by kernel_rfl, ?_⟩) (by assumption) ?_
        rotate_left
        · (intro w hSw; (try dsimp only at hSw); go_simp; all_goals with_reducible rfl)
        try simp only [Act.put, List.setIfInBounds_toArray, List.set_cons_zero, List.set_cons_succ]
        refine wpAnyZ_call (q := 5) (by kernel_rfl) rfl rfl (fun K hK => ?_)
        go_simp
        refine (HC1.out _).mono ?_
        rintro e x9 ⟨rfl, hb1⟩
        have zs1 := hb1.size
        try simp at zs1
        have y0 : x9.cell? ⟨v1.heap.size + 1, 0, none⟩ = some (.int .i64 N0) := by rw [(bcell hb1).1 _ _ (by first | (simp; done) | (simp; omega) | omega)]; simp [go_sem, World.cell?_alloc_past, *]
        have y1 : x9.cell? ⟨v1.heap.size + 1, 1, none⟩ = some (.int .i64 hi) := by rw [(bcell hb1).1 _ _ (by first | (simp; done) | (simp; omega) | omega)]; simp [go_sem, World.cell?_alloc_past, *]
        have y2 : x9.cell? ⟨w.heap.size, 0, none⟩ = some (.int .i64 0) := by rw [(bcell hb1).1 _ _ (by first | (simp; done) | (simp; omega) | omega)]; simp [go_sem, World.cell?_alloc_past, *]
        have y3 : x9.cell? ⟨w.heap.size, 1, none⟩ = some (.int .i64 0) := by rw [(bcell hb1).1 _ _ (by first | (simp; done) | (simp; omega) | omega)]; simp [go_sem, World.cell?_alloc_past, *]
        have y4 : x9.cell? ⟨b12, 0, none⟩ = some (.int .i64 P) := by rw [(bcell hb1).1 _ _ (by first | (simp; done) | (simp; omega) | omega)]; simp [go_sem, World.cell?_alloc_past, *]
        have y5 : x9.cell? ⟨b12, 1, none⟩ = some (.int .i64 Q) := by rw [(bcell hb1).1 _ _ (by first | (simp; done) | (simp; omega) | omega)]; simp [go_sem, World.cell?_alloc_past, *]
        have y6 : x9.cell? ⟨b13, 0, none⟩ = some (.int .i64 X) := by rw [(bcell hb1).1 _ _ (by first | (simp; done) | (simp; omega) | omega)]; simp [go_sem, World.cell?_alloc_past, *]
        have y7 : x9.cell? ⟨b13, 1, none⟩ = some (.int .i64 Y) := by rw [(bcell hb1).1 _ _ (by first | (simp; done) | (simp; omega) | omega)]; simp [go_sem, World.cell?_alloc_past, *]
        have yf : ∀ j, x9.frozen? ⟨v1.heap.size + 1, j, none⟩ = false := fun j => by rw [(bcell hb1).2 _ _ (by first | (simp; done) | (simp; omega) | omega)]; simp [go_sem, *]
        have yg : ∀ j, x9.frozen? ⟨w.heap.size, j, none⟩ = false := fun j => by rw [(bcell hb1).2 _ _ (by first | (simp; done) | (simp; omega) | omega)]; simp [go_sem, *]
        have l1 : v1.heap.size + 1 < x9.heap.size := by omega
        have l2 : w.heap.size < x9.heap.size := by omega
        have l3 : b12 < x9.heap.size := by omega
        have l4 : b13 < x9.heap.size := by omega
        have hB1 : Below w.heap.size w x9 := (by (repeat (first | (with_reducible refine Below.drew ?_) | (with_reducible refine below_drewN ?_ _) | (with_reducible refine Below.alloc ?_ (by first | omega | (simp; done) | (simp; omega) | (simp at *; omega)) _) | (with_reducible refine Below.setCell ?_ (by first | omega | (simp; done) | (simp; omega) | (simp at *; omega)) _) | (with_reducible exact Below.refl _ _) | (with_reducible assumption) | (with_reducible refine Below.trans ?_ (Below.mono (by assumption) (by first | omega | (simp; done) | (simp; omega) | (simp at *; omega)))))))
        clear hb1 u0 u1 u2 u3 u4 u5 u6 u7 uf ug uB
        go_wp2_with fail
        refine hK.out _ _ (by simp [go_sem, World.cell?_alloc_past, *]) (fun hHeld => ?_)
        clear hK K
        try simp only [Act.put, List.setIfInBounds_toArray, List.set_cons_zero, List.set_cons_succ]
        refine wpAnyZ_call (q := 6) (by kernel_rfl) rfl rfl (fun K hK => ?_)
        go_simp
        go_wp2_with fail
        refine hK.out _ _ (by simp [go_sem, World.cell?_alloc_past, *]) (fun hHeld => ?_)
        clear hK K
        try simp only [Act.put, List.setIfInBounds_toArray, List.set_cons_zero, List.set_cons_succ]
        refine wpAnyZ_take (i := 7) (oi := ⟨some 55, _, _, _, _, _⟩) (v := ?_) (by kernel_rfl) (by kernel_rfl) rfl rfl (by kernel_rfl) (by kernel_rfl) (by kernel_rfl) (fun _ _ _ h => h) (Or.inl ⟨by kernel_rfl, ?_⟩) (by assumption) ?_
        rotate_left
        · (intro w hSw; (try dsimp only at hSw); go_simp; all_goals with_reducible rfl)
        try simp only [Act.put, List.setIfInBounds_toArray, List.set_cons_zero, List.set_cons_succ]
        refine wpAnyZ_last (by kernel_rfl) rfl (fun K hK => ?_)
        go_simp
        go_wp2_with fail
        refine hK.out _ _ ?_
        clear hK K
        try simp only [Act.put, List.setIfInBounds_toArray, List.set_cons_zero, List.set_cons_succ]
        go_wp2
        go_roundw
        case rel => exact ⟨k + 1, N0, max hi M1, by omega, by go_num, HST.out.symm, by simp [go_sem, World.cell?_alloc_past, *], by rw [hmx]; simp [go_sem, World.cell?_alloc_past, *], by intro j; simp [go_sem, *], by simp [go_sem, World.cell?_alloc_past, *], by simp [go_sem, World.cell?_alloc_past, *], by intro j; simp [go_sem, *], by first | omega | (simp; done) | (simp; omega), (by (repeat (first | (with_reducible refine Below.drew ?_) | (with_reducible refine below_drewN ?_ _) | (with_reducible refine Below.alloc ?_ (by first | omega | (simp; done) | (simp; omega) | (simp at *; omega)) _) | (with_reducible refine Below.setCell ?_ (by first | omega | (simp; done) | (simp; omega) | (simp at *; omega)) _) | (with_reducible exact Below.refl _ _) | (with_reducible assumption) | (with_reducible refine Below.trans ?_ (Below.mono (by assumption) (by first | omega | (simp; done) | (simp; omega) | (simp at *; omega)))))))⟩
        case measure => (simp [intOf]) <;> omega
    · have hkl2 : ¬ (k : Int) < T.length := by omega
      have HN : Hid (EL = lo ∧ EH = hi) := by
        have := hx.out
        rw [ceilR_end (by omega)] at this
        simp only [Prod.mk.injEq] at this
        exact ⟨this.1.symm, this.2.symm⟩
      have zw1 : w.heap.size < wr.heap.size := by omega
      go_wp2
      refine bodyPost_ret (v := .tuple #[.agg #[.int .i64 lo, .int .i64 hi], .int .i64 0]) (by simp [results, Try.results52, go_sem, World.cell?_alloc_past, *]) rfl ⟨by rw [HN.out.1, HN.out.2], ?_⟩
      (repeat (first | (with_reducible refine Below.drew ?_) | (with_reducible refine below_drewN ?_ _) | (with_reducible refine Below.alloc ?_ (by first | omega | (simp; done) | (simp; omega) | (simp at *; omega)) _) | (with_reducible refine Below.setCell ?_ (by first | omega | (simp; done) | (simp; omega) | (simp at *; omega)) _) | (with_reducible exact Below.refl _ _) | (with_reducible assumption) | (with_reducible refine Below.trans ?_ (Below.mono (by assumption) (by first | omega | (simp; done) | (simp; omega) | (simp at *; omega))))))
end Go.Proofs.Ytchfhhmmjioajaa
