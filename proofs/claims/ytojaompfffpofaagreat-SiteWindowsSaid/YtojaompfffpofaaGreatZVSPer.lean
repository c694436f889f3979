import Derived.Test.YtojaompfffpofaaGreatZVNums
import Derived.Laws.StructEq
import Derived.Outline
namespace Go.Proofs.YtojaompfffpofaaGreat
open Go.ChangeShapes Go.WideShapes Go.ChangeAt Go.RowKit
set_option linter.unusedVariables false
set_option linter.unusedSimpArgs false
attribute [local go_sem ↓] Go.wp_at_zero Go.wp_at_succ
/-- Floor and Ceil of any number. -/
def clD (n d : Int) : Int := (n + d - 1) / d
theorem floor_is (n d q : Int) (w : World) (h0 : 0 ≤ n) (h1 : n ≤ 1000000000000000000) (h2 : 0 < d) (h3 : d ≤ 1000000000000000000) (hq : Hid (n / d = q)) :
    Calls Tryz.prog 115 #[.int .i64 n, .int .i64 d] w fun e w' => e = .returned (.int .i64 q) ∧ w = w' := by
  rw [← hq.out]; exact baseFloor_nn n d w h0 h1 h2 h3
theorem ceil_is (n d q : Int) (w : World) (h0 : 0 ≤ n) (h1 : n ≤ 1000000000000000000) (h2 : 0 < d) (h3 : d ≤ 1000000000000000000) (hq : Hid (clD n d = q)) :
    Calls Tryz.prog 116 #[.int .i64 n, .int .i64 d] w fun e w' => e = .returned (.int .i64 q) ∧ w = w' := by
  rw [← hq.out]; exact baseCeil_nn n d w h0 h1 h2 h3
theorem div_add_mul {a k p : Int} (hp : 0 < p) : (k * p + a) / p = k + a / p := by
  rw [Int.add_comm, Int.add_mul_ediv_right _ _ (by omega)]; omega
theorem angLo_eq {w : Wv} (hw : WvOk w) {t : Int} (h0 : 0 ≤ t) : angLo w t = (w.f + 4096 * t / w.p) % 4096 := by
  have hp := hw.p0
  unfold angLo angI
  generalize hN : w.f * w.p + 4096 * t = N
  have e1 : N / w.p = w.f + 4096 * t / w.p := by rw [← hN]; exact div_add_mul (by omega)
  rw [← e1]
  have e2 := Int.emod_add_mul_ediv N (4096 * w.p)
  have e3 : N / w.p = (N % (4096 * w.p)) / w.p + 4096 * (N / (4096 * w.p)) := by
    have : N = (4096 * (N / (4096 * w.p))) * w.p + N % (4096 * w.p) := by
      have e4 : 4096 * w.p * (N / (4096 * w.p)) = 4096 * (N / (4096 * w.p)) * w.p := by grind
      omega
    rw [show N / w.p = ((4096 * (N / (4096 * w.p))) * w.p + N % (4096 * w.p)) / w.p by rw [← this], div_add_mul (by omega)]
    omega
  have hb := angLo_bd hw h0
  unfold angLo angI at hb
  rw [hN] at hb
  omega
theorem angHi_eq {w : Wv} (hw : WvOk w) {t : Int} (h0 : 0 ≤ t) : angHi w t = w.f + clD (4096 * t) w.p - 4096 * ((w.f + 4096 * t / w.p) / 4096) := by
  have hp := hw.p0
  unfold angHi angI clD
  generalize hN : w.f * w.p + 4096 * t = N
  have e1 : N / w.p = w.f + 4096 * t / w.p := by rw [← hN]; exact div_add_mul (by omega)
  have e5 : (N + w.p - 1) / w.p = w.f + (4096 * t + w.p - 1) / w.p := by
    rw [← hN, show w.f * w.p + 4096 * t + w.p - 1 = w.f * w.p + (4096 * t + w.p - 1) by omega]; exact div_add_mul (by omega)
  rw [← e1]
  have e2 := Int.emod_add_mul_ediv N (4096 * w.p)
  have e4 : 4096 * w.p * (N / (4096 * w.p)) = 4096 * (N / (4096 * w.p)) * w.p := by grind
  have e6 : N / w.p / 4096 = N / (4096 * w.p) := by rw [Int.ediv_ediv_of_nonneg (by omega), Int.mul_comm]
  rw [e6]
  have e7 : (N + w.p - 1) / w.p = (N % (4096 * w.p) + w.p - 1) / w.p + 4096 * (N / (4096 * w.p)) := by
    have : N + w.p - 1 = (4096 * (N / (4096 * w.p))) * w.p + (N % (4096 * w.p) + w.p - 1) := by omega
    rw [show (N + w.p - 1) / w.p = ((4096 * (N / (4096 * w.p))) * w.p + (N % (4096 * w.p) + w.p - 1)) / w.p by rw [← this], div_add_mul (by omega)]
    omega
  omega
set_option maxRecDepth 100000 in
set_option maxHeartbeats 1000000 in
theorem refAngle_is (h p f t lo hi : Int) (w : World) (hW : Hid (WvOk ⟨h, p, f⟩)) (t0 : 0 ≤ t) (t1 : t ≤ 2000000) (hlo : Hid (angLo ⟨h, p, f⟩ t = lo)) (hhi : Hid (angHi ⟨h, p, f⟩ t = hi)) :
    Calls Tryz.prog 143 #[.agg #[.int .i64 h, .int .i64 p, .int .i64 f], .int .i64 t] w fun e w' => e = .returned (.agg #[.int .i64 lo, .int .i64 hi]) ∧ Below w.heap.size w w' := by
  obtain ⟨_, _, p0, p1, f0, f1⟩ := hW.out
  dsimp only at p0 p1 f0 f1
  have q1 := angLo_eq hW.out t0
  have q2 := angHi_eq hW.out t0
  rw [hlo.out] at q1
  rw [hhi.out] at q2
  dsimp only at q1 q2
  have bl := angLo_bd hW.out t0
  have bh := angHi_bd hW.out t0
  rw [hlo.out] at bl
  rw [hhi.out] at bh
  obtain ⟨N, hN⟩ : ∃ N, Hid (4096 * t = N) := ⟨_, Lib.hid rfl⟩
  rw [hN.out] at q1 q2
  have N0 : 0 ≤ N := by rw [← hN.out]; omega
  have N1 : N ≤ 10000000000 := by rw [← hN.out]; omega
  have g0 : 0 ≤ N / p := Int.ediv_nonneg N0 (by omega)
  have g1 : N / p ≤ N := Int.ediv_le_self _ N0
  have c0 : 0 ≤ clD N p := Int.ediv_nonneg (by omega) (by omega)
  have c1 : clD N p ≤ N + p - 1 := Int.ediv_le_self _ (by omega)
  obtain ⟨a, ha⟩ : ∃ a, Hid (N / p = a) := ⟨_, Lib.hid rfl⟩
  obtain ⟨b, hb⟩ : ∃ b, Hid (clD N p = b) := ⟨_, Lib.hid rfl⟩
  rw [ha.out] at q1 q2 g0 g1
  rw [hb.out] at q2 c0 c1
  obtain ⟨c, hc⟩ : ∃ c, Hid ((f + a) / 4096 = c) := ⟨_, Lib.hid rfl⟩
  have d0 : 0 ≤ (f + a) / 4096 := by omega
  have d1 : (f + a) / 4096 ≤ f + a := Int.ediv_le_self _ (by omega)
  have q3 : lo = f + a - c * 4096 := by rw [← hc.out]; omega
  rw [hc.out] at q2 d0 d1
  have q4 : hi = f + b - c * 4096 := by omega
  have w1 : IntKind.i64.wrap (4096 * t) = N := by rw [hN.out]; exact IntWalk.i64_in _ (by omega)
  have w2 : IntKind.i64.wrap (f + a) = f + a := IntWalk.i64_in _ (by omega)
  have w3 : IntKind.i64.wrap (f + b) = f + b := IntWalk.i64_in _ (by omega)
  have w4 : IntKind.i64.wrap (c * 4096) = c * 4096 := IntWalk.i64_in _ (by omega)
  have w5 : IntKind.i64.wrap (f + a - c * 4096) = lo := by rw [← q3]; exact IntWalk.i64_in _ (by omega)
  have w6 : IntKind.i64.wrap (f + b - c * 4096) = hi := by rw [← q4]; exact IntWalk.i64_in _ (by omega)
  have F1 := fun w => floor_is N p a w N0 (by omega) (by omega) (by omega) ha
  have F2 := fun w => ceil_is N p b w N0 (by omega) (by omega) (by omega) hb
  have F3 := fun w => floor_is (f + a) 4096 c w (by omega) (by omega) (by omega) (by omega) hc
  have HF1 := Lib.hid F1
  have HF2 := Lib.hid F2
  have HF3 := Lib.hid F3
  have fa0 : 0 ≤ f + a := by omega
  clear q1 q2 q3 q4 F1 F2 F3 hW hlo hhi d1
  go_enter Tryz.func143, Tryz.ntmps143
  go_upto_region 2 with (fail)
  refine wp_region_held_drew (S := (fun w' => w'.cell? ⟨w.heap.size, 1, none⟩ = some (.int .i64 p) ∧ w'.cell? ⟨w.heap.size, 2, none⟩ = some (.int .i64 f))) (by kernel_rfl) (by simp [go_sem, World.cell?_alloc_past, *]) (fun hHeld => ?_)
  refine tkH 0 ⟨some 11, _, _, _, _, _⟩ ?_ rfl ?_ (by assumption) ?_
  rotate_left
  · (intro w hSw; (try dsimp only at hSw); go_simp; all_goals with_reducible rfl)
  try simp only [Act.put, sA, sB, sC]
  refine tkH 1 ⟨some 12, _, _, _, _, _⟩ ?_ rfl ?_ (by assumption) ?_
  rotate_left
  · (intro w hSw; (try dsimp only at hSw); go_simp; all_goals with_reducible rfl)
  try simp only [Act.put, sA, sB, sC]
  refine tkH 2 ⟨some 13, _, _, _, _, _⟩ ?_ rfl ?_ (by assumption) ?_
  rotate_left
  · (intro w hSw; (try dsimp only at hSw); go_simp; all_goals with_reducible rfl)
  try simp only [Act.put, sA, sB, sC]
  refine tkH 3 ⟨some 14, _, _, _, _, _⟩ ?_ rfl ?_ (by assumption) ?_
  rotate_left
  · (intro w hSw; (try dsimp only at hSw); go_simp; all_goals with_reducible rfl)
  try simp only [Act.put, sA, sB, sC]
  refine tkH 4 ⟨some 15, _, _, _, _, _⟩ ?_ rfl ?_ (by assumption) ?_
  rotate_left
  · (intro w hSw; (try dsimp only at hSw); go_simp; all_goals with_reducible rfl)
  try simp only [Act.put, sA, sB, sC]
  refine wpAnyH_ready (rs := [5]) (by kernel_rfl) (by simp) ?_
  refine AllReadyH.cons rfl (fun K hK => ?_) AllReadyH.nil
  go_simp
  refine (HF1.out _).mono ?_
  rintro e w' ⟨rfl, rfl⟩
  go_wp2_with fail
  refine hK.out _ _ (by simp [go_sem, World.cell?_alloc_past, *]) (fun hHeld => ?_)
  clear hK K
  try simp only [Act.put, sA, sB, sC]
  refine tkH 6 ⟨some 17, _, _, _, _, _⟩ ?_ rfl ?_ (by assumption) ?_
  rotate_left
  · (intro w hSw; (try dsimp only at hSw); go_simp; all_goals with_reducible rfl)
  try simp only [Act.put, sA, sB, sC]
  refine tkH 7 ⟨some 6, _, _, _, _, _⟩ ?_ rfl ?_ (by assumption) ?_
  rotate_left
  · (intro w hSw; (try dsimp only at hSw); go_simp; all_goals with_reducible rfl)
  try simp only [Act.put, sA, sB, sC]
  refine wpAnyH_done (by kernel_rfl) ?_ _
  go_upto_region 3 with (fail)
  refine wp_region_held_drew (S := (fun w' => w'.cell? ⟨w.heap.size, 1, none⟩ = some (.int .i64 p) ∧ w'.cell? ⟨w.heap.size, 2, none⟩ = some (.int .i64 f))) (by kernel_rfl) (by simp [go_sem, World.cell?_alloc_past, *]) (fun hHeld => ?_)
  refine tkH 0 ⟨some 18, _, _, _, _, _⟩ ?_ rfl ?_ (by assumption) ?_
  rotate_left
  · (intro w hSw; (try dsimp only at hSw); go_simp; all_goals with_reducible rfl)
  try simp only [Act.put, sA, sB, sC]
  refine tkH 1 ⟨some 19, _, _, _, _, _⟩ ?_ rfl ?_ (by assumption) ?_
  rotate_left
  · (intro w hSw; (try dsimp only at hSw); go_simp; all_goals with_reducible rfl)
  try simp only [Act.put, sA, sB, sC]
  refine tkH 2 ⟨some 20, _, _, _, _, _⟩ ?_ rfl ?_ (by assumption) ?_
  rotate_left
  · (intro w hSw; (try dsimp only at hSw); go_simp; all_goals with_reducible rfl)
  try simp only [Act.put, sA, sB, sC]
  refine tkH 3 ⟨some 21, _, _, _, _, _⟩ ?_ rfl ?_ (by assumption) ?_
  rotate_left
  · (intro w hSw; (try dsimp only at hSw); go_simp; all_goals with_reducible rfl)
  try simp only [Act.put, sA, sB, sC]
  refine tkH 4 ⟨some 22, _, _, _, _, _⟩ ?_ rfl ?_ (by assumption) ?_
  rotate_left
  · (intro w hSw; (try dsimp only at hSw); go_simp; all_goals with_reducible rfl)
  try simp only [Act.put, sA, sB, sC]
  refine wpAnyH_ready (rs := [5]) (by kernel_rfl) (by simp) ?_
  refine AllReadyH.cons rfl (fun K hK => ?_) AllReadyH.nil
  go_simp
  refine (HF2.out _).mono ?_
  rintro e w' ⟨rfl, rfl⟩
  go_wp2_with fail
  refine hK.out _ _ (by simp [go_sem, World.cell?_alloc_past, *]) (fun hHeld => ?_)
  clear hK K
  try simp only [Act.put, sA, sB, sC]
  refine tkH 6 ⟨some 24, _, _, _, _, _⟩ ?_ rfl ?_ (by assumption) ?_
  rotate_left
  · (intro w hSw; (try dsimp only at hSw); go_simp; all_goals with_reducible rfl)
  try simp only [Act.put, sA, sB, sC]
  refine tkH 7 ⟨some 7, _, _, _, _, _⟩ ?_ rfl ?_ (by assumption) ?_
  rotate_left
  · (intro w hSw; (try dsimp only at hSw); go_simp; all_goals with_reducible rfl)
  try simp only [Act.put, sA, sB, sC]
  refine wpAnyH_done (by kernel_rfl) ?_ _
  go_wp2_with fail
  refine (HF3.out _).mono ?_
  rintro e w' ⟨rfl, rfl⟩
  go_wp2
  refine bodyPost_ret (v := .agg #[.int .i64 lo, .int .i64 hi]) (by simp [results, Tryz.results143, go_sem, *]) rfl ⟨rfl, ?_⟩
  (repeat (first | (with_reducible refine Below.drew ?_) | (with_reducible refine below_drewN ?_ _) | (with_reducible refine Below.alloc ?_ (by first | omega | (simp; done) | (simp; omega) | (simp at *; omega)) _) | (with_reducible refine Below.setCell ?_ (by first | omega | (simp; done) | (simp; omega) | (simp at *; omega)) _) | (with_reducible exact Below.refl _ _) | (with_reducible assumption) | (with_reducible refine Below.trans ?_ (Below.mono (by assumption) (by first | omega | (simp; done) | (simp; omega) | (simp at *; omega))))))
/-- The error of AngleAt. -/
def anE (x : Wv) (t : Int) : Int := firE [wvE x, rngE t 0 1000000]
end Go.Proofs.YtojaompfffpofaaGreat

namespace Go.Proofs.YtojaompfffpofaaGreat
open Go.ChangeShapes Go.WideShapes Go.ChangeAt Go.RowKit
set_option linter.unusedVariables false
set_option linter.unusedSimpArgs false
attribute [local go_sem ↓] Go.wp_at_zero Go.wp_at_succ
theorem sl_set {α : Type} {f : α → List Value} {n : Nat} {w : World} {A : Option Addr} {L : List α} {N b i : Nat} {v : Value} (h : SlRows f n w A L) (hA : ∀ ad, A = some ad → N ≤ ad.block) (hb : b < N) : SlRows f n (w.setCell ⟨b, i, none⟩ v) A L := by
  rcases h with h | ⟨c, off, rfl, hlt, h⟩
  · exact Or.inl h
  · have hc : N ≤ c := hA _ rfl
    exact Or.inr ⟨c, off, rfl, by simpa using hlt, fun k hk j hj => by rw [cell_offT (Or.inl (by omega))]; exact h k hk j hj⟩
/-- A copy of a table. -/
def OwnP (m : Int) (n : Nat) (L : List Wv) (w : World) (e : Ending) (w' : World) : Prop := ∃ (G : Option Addr) (cg : Nat), e = .returned (.agg #[.int .i64 m, .slice G n cg]) ∧ SlRows wvV 3 w' G L ∧ Below w.heap.size w w'
structure OwnS (m : Int) (A : Option Addr) (n cap : Nat) (w X : World) : Prop where
  c0 : X.cell? ⟨w.heap.size, 0, none⟩ = some (.int .i64 m)
  c1 : X.cell? ⟨w.heap.size, 1, none⟩ = some (.slice A n cap)
  r0 : X.cell? ⟨w.heap.size + 1, 0, none⟩ = some (.int .i64 0)
  r1 : X.cell? ⟨w.heap.size + 1, 1, none⟩ = some (.slice none 0 0)
  fr : ∀ j, X.frozen? ⟨w.heap.size + 1, j, none⟩ = false
  be : Below w.heap.size w X
  lt : w.heap.size + 1 < X.heap.size
theorem OwnS.below {m : Int} {A : Option Addr} {n cap : Nat} {w X X' : World} (h : OwnS m A n cap w X) (hb : Below X.heap.size X X') : OwnS m A n cap w X' := by
  have z := hb.size
  have l := h.lt
  have l0 : w.heap.size < X.heap.size := by omega
  exact ⟨(hb.cell (p := ⟨w.heap.size, 0, none⟩) l0).trans h.c0, (hb.cell (p := ⟨w.heap.size, 1, none⟩) l0).trans h.c1, (hb.cell (p := ⟨w.heap.size + 1, 0, none⟩) l).trans h.r0, (hb.cell (p := ⟨w.heap.size + 1, 1, none⟩) l).trans h.r1, fun j => (hb.frozen (p := ⟨w.heap.size + 1, j, none⟩) l).trans (h.fr j), h.be.trans (hb.mono h.be.size), by omega⟩
theorem ownS_start (m : Int) (A : Option Addr) (n cap : Nat) (w : World) : OwnS m A n cap w ((w.alloc (.cells #[.int .i64 m, .slice A n cap] 24)).alloc (.cells #[.int .i64 0, .slice none 0 0] 24)) :=
  ⟨by simp [go_sem, World.cell?_alloc_past], by simp [go_sem, World.cell?_alloc_past], by simp [go_sem], by simp [go_sem], by intro j; simp [go_sem], (by (repeat (first | (with_reducible refine Below.drew ?_) | (with_reducible refine below_drewN ?_ _) | (with_reducible refine Below.alloc ?_ (by first | omega | (simp; done) | (simp; omega) | (simp at *; omega)) _) | (with_reducible refine Below.setCell ?_ (by first | omega | (simp; done) | (simp; omega) | (simp at *; omega)) _) | (with_reducible exact Below.refl _ _) | (with_reducible assumption) | (with_reducible refine Below.trans ?_ (Below.mono (by assumption) (by first | omega | (simp; done) | (simp; omega) | (simp at *; omega))))))), by simp⟩
set_option maxRecDepth 100000 in
set_option maxHeartbeats 1000000 in
theorem own_is (m : Int) (L : List Wv) (A : Option Addr) (n cap : Nat) (w : World) (hn : Hid (n = L.length)) (hl : n ≤ 1000000) (HL : Hid (SlRows wvV 3 w A L)) (CA : Hid (A = none → n = 0 ∧ cap = 0)) :
    Calls Tryz.prog 15 #[.agg #[.int .i64 m, .slice A n cap]] w (OwnP m n L w) := by
  obtain ⟨i0, hi, hz0, hz1, hz2⟩ := info_partsS infoWv
  have HI := Lib.hid hi
  have HZ0 := Lib.hid hz0
  have HZ1 := Lib.hid hz1
  have HZ2 := Lib.hid hz2
  have HLLA := Lib.hid (rowsV_len (f := wvV) (n := 3) (fun _ => rfl) L)
  rw [← hn.out] at HLLA
  clear hi hz0 hz1 hz2
  go_enter Tryz.func15, Tryz.ntmps15
  go_upto_region 1 with (fail)
  refine wp_world (OwnS m A n cap w) (ownS_start m A n cap w) (fun u hu => ?_)
  have HU := Lib.hid hu
  have HS : Hid (∀ x, Below u.heap.size u x → x.cell? ⟨w.heap.size, 0, none⟩ = some (.int .i64 m) ∧ x.cell? ⟨w.heap.size, 1, none⟩ = some (.slice A n cap)) := Lib.hid fun x hx => ⟨(HU.out.below hx).c0, (HU.out.below hx).c1⟩
  have HA : Hid (∀ x, Below u.heap.size u x → SlRows wvV 3 x A L) := Lib.hid fun x hx => HL.out.below (HU.out.below hx).be
  clear hu
  refine wp_region_held_drew (S := (fun w' => w'.cell? ⟨w.heap.size, 0, none⟩ = some (.int .i64 m) ∧ w'.cell? ⟨w.heap.size, 1, none⟩ = some (.slice A n cap))) (by kernel_rfl) (by exact HS.out _ (Below.refl u.heap.size u).drew) (fun hHeld => ?_)
  refine tkH 0 ⟨some 3, _, _, _, _, _⟩ ?_ rfl ?_ (by assumption) ?_
  rotate_left
  · (intro w hSw; (try dsimp only at hSw); go_simp; all_goals with_reducible rfl)
  try simp only [Act.put, sA, sB, sC]
  refine tkH 1 ⟨some 4, _, _, _, _, _⟩ ?_ rfl ?_ (by assumption) ?_
  rotate_left
  · (intro w hSw; (try dsimp only at hSw); go_simp; all_goals with_reducible rfl)
  try simp only [Act.put, sA, sB, sC]
  refine tkH 3 ⟨some 6, _, _, _, _, _⟩ ?_ rfl ?_ (by assumption) ?_
  rotate_left
  · (intro w hSw; (try dsimp only at hSw); go_simp; all_goals with_reducible rfl)
  try simp only [Act.put, sA, sB, sC]
  refine tkH 4 ⟨some 7, _, _, _, _, _⟩ ?_ rfl ?_ (by assumption) ?_
  rotate_left
  · (intro w hSw; (try dsimp only at hSw); go_simp; all_goals with_reducible rfl)
  try simp only [Act.put, sA, sB, sC]
  have hB0 : Below u.heap.size u u.drew := (Below.refl u.heap.size u).drew
  generalize hdr : u.drew = v0 at *
  clear hdr
  refine wpAnyH_ready (rs := [2]) (by kernel_rfl) (by simp) ?_
  refine AllReadyH.cons rfl (fun K hK => ?_) AllReadyH.nil
  go_simp
  go_wp2_with fail
  refine hK.out _ _ (HS.out _ ((hB0).alloc (hB0).size _)) (fun hHeld => ?_)
  clear hK K
  try simp only [Act.put, sA, sB, sC]
  obtain ⟨bz, ebz⟩ : ∃ x, v0.heap.size = x := ⟨_, rfl⟩
  generalize hq1 : v0.alloc (.cells #[] 124) = v1
  have hb1 : Below v0.heap.size v0 v1 := by rw [← hq1]; exact (Below.refl _ _).alloc (Nat.le_refl _) _
  have HO1 : Hid (v1.ownsRow u.heap.size 124 3 (.slice (some ⟨bz, 0, none⟩) 0 0) 0 []) := Lib.hid (own_emptyS (by rw [← ebz]; exact (hB0).size) (by rw [← hq1, ← ebz]; exact allocF_at _ _))
  have hB1 : Below u.heap.size u v1 := (hB0).trans (hb1.mono (hB0).size)
  rw [ebz]
  clear hq1
  refine wpAnyH_ready (rs := [5]) (by kernel_rfl) (by simp) ?_
  refine AllReadyH.cons rfl (fun K hK => ?_) AllReadyH.nil
  rw [if_pos (by kernel_rfl)]
  have HX2 := Lib.hid (wv_src (HA.out _ (hB1)))
  refine oper_append_sl _ _ 22 rfl u.heap.size 124 i0 (.agg #[.int .i64 0, .int .i64 0, .int .i64 0]) 3 24 Tryz.underlying22 HI.out HZ0.out HZ1.out HZ2.out rfl (by decide) _ 0 [] rfl HO1.out A n cap (rowsV wvV L) rfl CA.out HLLA.out HX2.out (rows_one wvV_one L) ?c2 ?c3 (hB1).size ?_
  case c2 => unfold maxLen; omega
  case c3 => omega
  intro w2v v2 hown hgrow hblk
  try simp only [Nat.zero_add, List.nil_append] at hown
  have hB2 : Below u.heap.size u v2 := (hB1).grown hgrow (hB1).size (fun r hr => (own_block HO1.out r hr).1)
  obtain ⟨G, cg, hv, hS, hGb, _, _, _⟩ := SlRows_own (f := wvV) (n := 3) (L := L) (fun _ => rfl) (by rw [← hn.out]; exact hown)
  rw [← hn.out] at hv
  subst hv
  have HSG := Lib.hid hS
  have HGB := Lib.hid hGb
  clear hown hgrow hblk hS hGb
  refine hK.out _ _ (HS.out _ hB2) (fun hHeld => ?_)
  clear hK K
  try simp only [Act.put, sA, sB, sC]
  refine tkH 6 ⟨some 9, _, _, _, _, _⟩ ?_ rfl ?_ (by assumption) ?_
  rotate_left
  · (intro w hSw; (try dsimp only at hSw); go_simp; all_goals with_reducible rfl)
  try simp only [Act.put, sA, sB, sC]
  obtain ⟨e0, e1, d0, d1, df, dbe, dlt⟩ := HU.out.below hB2
  refine wpAnyH_ready (rs := [7]) (by kernel_rfl) (by simp) ?_
  refine AllReadyH.cons rfl (fun K hK => ?_) AllReadyH.nil
  go_simp
  go_wp2_with fail
  refine hK.out _ _ (by simp [go_sem, World.cell?_alloc_past, *]) (fun hHeld => ?_)
  clear hK K
  try simp only [Act.put, sA, sB, sC]
  refine wpAnyH_done (by kernel_rfl) ?_ _
  go_wp2
  refine bodyPost_ret (v := .agg #[.int .i64 m, .slice G n cg]) (by simp [results, Tryz.results15, go_sem, *]) rfl ⟨G, cg, rfl, ?_, ?_⟩
  · have lu := HU.out.lt
    exact sl_set (sl_set HSG.out HGB.out (by omega)) HGB.out (by omega)
  · (repeat (first | (with_reducible refine Below.drew ?_) | (with_reducible refine below_drewN ?_ _) | (with_reducible refine Below.alloc ?_ (by first | omega | (simp; done) | (simp; omega) | (simp at *; omega)) _) | (with_reducible refine Below.setCell ?_ (by first | omega | (simp; done) | (simp; omega) | (simp at *; omega)) _) | (with_reducible exact Below.refl _ _) | (with_reducible assumption) | (with_reducible refine Below.trans ?_ (Below.mono (by assumption) (by first | omega | (simp; done) | (simp; omega) | (simp at *; omega))))))
theorem one_wv (X : World) (b : Nat) (h p f : Int) (hb : b < X.heap.size) (h0 : X.cell? ⟨b, 0, none⟩ = some (.int .i64 h)) (h1 : X.cell? ⟨b, 1, none⟩ = some (.int .i64 p)) (h2 : X.cell? ⟨b, 2, none⟩ = some (.int .i64 f)) : SlRows wvV 3 X (some ⟨b, 0, none⟩) [⟨h, p, f⟩] := by
  refine Or.inr ⟨b, 0, rfl, hb, fun k hk i hi => ?_⟩
  obtain rfl : k = 0 := by simpa using hk
  rcases (show i = 0 ∨ i = 1 ∨ i = 2 by omega) with rfl | rfl | rfl
  · exact h0
  · exact h1
  · exact h2
theorem ang_per (w : Wv) (t : Int) : angI w (t + w.p) = angI w t := by
  unfold angI
  rw [show w.f * w.p + 4096 * (t + w.p) = (w.f * w.p + 4096 * t) + 4096 * w.p by omega, Int.add_emod_right]
theorem lev_per (m : Int) (w : Wv) (t : Int) : levLo m [w] (t + w.p) = levLo m [w] t ∧ levHi m [w] (t + w.p) = levHi m [w] t := by
  have h : cosW w (t + w.p) = cosW w t := by unfold cosW angLo angHi; rw [ang_per]
  unfold levLo levHi sumLo sumHi
  simp [h]
def PerR (w : World) (rb : Nat) (x y : Int) (s10 s11 : Value) (wx : World) : Prop := ∃ b : Nat, s10 = .pointer (some ⟨b, 0, none⟩) ∧ s11 = .int .i64 0 ∧ wx.cell? ⟨b, 0, none⟩ = some (.int .i64 x) ∧ wx.cell? ⟨b, 1, none⟩ = some (.int .i64 y) ∧ wx.cell? ⟨rb, 0, none⟩ = some (.int .i64 x) ∧ wx.cell? ⟨rb, 1, none⟩ = some (.int .i64 y) ∧ Below w.heap.size w wx
end Go.Proofs.YtojaompfffpofaaGreat
