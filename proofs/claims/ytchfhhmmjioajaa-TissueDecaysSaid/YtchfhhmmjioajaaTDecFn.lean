/- What tissue.Decay and the specification's Decay return. -/
import Derived.Test.YtchfhhmmjioajaaTDecay0
import Derived.Test.YtchfhhmmjioajaaTRefDec
import Derived.Test.YtchfhhmmjioajaaMBase
import Derived.Outline
namespace Go.Proofs.Ytchfhhmmjioajaa
open Go.ChangeShapes Go.WideShapes Go.ChangeAt Go.RowKit
set_option linter.unusedVariables false
set_option linter.unusedSimpArgs false
theorem cFirst3_is (x y z r : Int) (b : Nat) (w : World) (hr : Hid (firE [x, y, z] = r)) (h0 : w.cell? ⟨b, 0, none⟩ = some (.int .i64 x)) (h1 : w.cell? ⟨b, 1, none⟩ = some (.int .i64 y)) (h2 : w.cell? ⟨b, 2, none⟩ = some (.int .i64 z)) :
    Calls Try.prog 73 #[.slice (some ⟨b, 0, none⟩) 3 3] w fun e w' => e = .returned (.int .i64 r) ∧ w = w' := by
  rw [← hr.out]; exact cFirst3c x y z b w h0 h1 h2
theorem firE_22 {x y z : Int} (hx : x = 0 ∨ x = 2) (hy : y = 0 ∨ y = 2) (hz : z = 0 ∨ z = 2) (h : x = 2 ∨ y = 2 ∨ z = 2) : firE [x, y, z] = 2 := by
  rcases hx with rfl | rfl <;> rcases hy with rfl | rfl <;> rcases hz with rfl | rfl <;> first | rfl | (simp at h) | (simp [firE])
theorem rngE_02 (n a b : Int) : rngE n a b = 0 ∨ rngE n a b = 2 := by
  rcases inB_cases n a b with h | h
  · exact Or.inl (rngE_t h)
  · exact Or.inr (rngE_f h)
theorem Decay_bad (s h L : Int) (w : World) (hE : Hid (firE [rngE s 0 1000000, rngE h 1 100000, rngE L 0 24] = 2)) :
    Calls Try.prog 17 #[.int .i64 s, .int .i64 h, .int .i64 L] w fun e w' => e = .returned (.tuple #[.agg #[.int .i64 0, .int .i64 0], .int .i64 2]) ∧ Below w.heap.size w w' := by
  go_enter Try.func17, Try.ntmps17
  go_wp2_with (first | (go_at_call 74; ((with_reducible refine (cRange_any _ _ _ _).mono ?_)); rintro e w' ⟨rfl, rfl⟩) | (go_at_call 71; ((with_reducible refine (tcheckLevel_any _ _).mono ?_)); rintro e w' ⟨rfl, rfl⟩) | (go_at_call 73; ((with_reducible refine (cFirst3_is _ _ _ 2 _ _ hE (by simp [go_sem]) (by simp [go_sem]) (by simp [go_sem])).mono ?_)); rintro e w' ⟨rfl, rfl⟩))
  refine bodyPost_ret (v := .tuple #[.agg #[.int .i64 0, .int .i64 0], .int .i64 2]) (by simp [results, Try.results17, go_sem, World.cell?_alloc_past]) rfl ⟨rfl, ?_⟩
  (repeat (first | (with_reducible refine Below.drew ?_) | (with_reducible refine below_drewN ?_ _) | (with_reducible refine Below.alloc ?_ (by first | omega | (simp; done) | (simp; omega) | (simp at *; omega)) _) | (with_reducible refine Below.setCell ?_ (by first | omega | (simp; done) | (simp; omega) | (simp at *; omega)) _) | (with_reducible exact Below.refl _ _) | (with_reducible assumption) | (with_reducible refine Below.trans ?_ (Below.mono (by assumption) (by first | omega | (simp; done) | (simp; omega) | (simp at *; omega))))))
theorem Decay_good (s h : Int) (L : Nat) (w : World) (s0 : 0 ≤ s) (s1 : s ≤ 1000000) (h0 : 1 ≤ h) (h1 : h ≤ 100000) (hL : L ≤ 24) :
    Calls Try.prog 17 #[.int .i64 s, .int .i64 h, .int .i64 L] w fun e w' => e = .returned (.tuple #[.agg #[.int .i64 (decL s h L), .int .i64 (decH s h L)], .int .i64 0]) ∧ Below w.heap.size w w' := by
  have hE : Hid (firE [rngE s 0 1000000, rngE h 1 100000, rngE (L : Int) 0 24] = 0) := by
    show _ = _
    rw [rngE_t (inB_true s0 s1), rngE_t (inB_true h0 h1), rngE_t (inB_true (by omega) (by omega))]
    rfl
  obtain ⟨x, hx⟩ : ∃ x, Hid (decL s h L = x) := ⟨_, rfl⟩
  obtain ⟨y, hy⟩ : ∃ x, Hid (decH s h L = x) := ⟨_, rfl⟩
  rw [hx.out, hy.out]
  go_enter Try.func17, Try.ntmps17
  go_wp2_with (first | (go_at_call 74; ((with_reducible refine (cRange_any _ _ _ _).mono ?_)); rintro e w' ⟨rfl, rfl⟩) | (go_at_call 71; ((with_reducible refine (tcheckLevel_any _ _).mono ?_)); rintro e w' ⟨rfl, rfl⟩) | (go_at_call 73; ((with_reducible refine (cFirst3_is _ _ _ 0 _ _ hE (by simp [go_sem]) (by simp [go_sem]) (by simp [go_sem])).mono ?_)); rintro e w' ⟨rfl, rfl⟩))
  refine (rootsTo_any L _ (by omega)).mono ?_
  rintro e w1 ⟨v, rfl, hR, hb1⟩
  obtain ⟨b, cap, rfl, lt, ge, hc1, hc2, hcell⟩ := hR
  have hs1 := hb1.size
  try simp at hs1
  try simp at ge
  have c0 : w1.cell? ⟨w.heap.size, 0, none⟩ = some (.int .i64 0) := by rw [(bcell hb1).1 _ _ (by first | (simp; done) | (simp; omega) | omega)]; simp [go_sem, World.cell?_alloc_past]
  have c1 : w1.cell? ⟨w.heap.size, 1, none⟩ = some (.int .i64 0) := by rw [(bcell hb1).1 _ _ (by first | (simp; done) | (simp; omega) | omega)]; simp [go_sem, World.cell?_alloc_past]
  have f0 : ∀ j, w1.frozen? ⟨w.heap.size, j, none⟩ = false := by intro j; rw [(bcell hb1).2 _ _ (by first | (simp; done) | (simp; omega) | omega)]; simp [go_sem]
  have hB1 : Below w.heap.size w w1 := (by (repeat (first | (with_reducible refine Below.drew ?_) | (with_reducible refine below_drewN ?_ _) | (with_reducible refine Below.alloc ?_ (by first | omega | (simp; done) | (simp; omega) | (simp at *; omega)) _) | (with_reducible refine Below.setCell ?_ (by first | omega | (simp; done) | (simp; omega) | (simp at *; omega)) _) | (with_reducible exact Below.refl _ _) | (with_reducible assumption) | (with_reducible refine Below.trans ?_ (Below.mono (by assumption) (by first | omega | (simp; done) | (simp; omega) | (simp at *; omega)))))))
  clear hb1
  go_wp2_with fail
  have HQ : Calls Try.prog 75 #[.int .i64 s, .int .i64 h, .slice (some ⟨b, 0, none⟩) (L + 1) cap] w1 fun e w' => e = .returned (.agg #[.int .i64 x, .int .i64 y]) ∧ Below w1.heap.size w1 w' := by
    rw [← hx.out, ← hy.out]; exact decayOf_all s h L b cap w1 s0 s1 h0 h1 (by omega) lt hc1 hc2 hcell
  refine HQ.mono ?_
  rintro e w2 ⟨rfl, hb2⟩
  have hs2 := hb2.size
  have lt1 : w.heap.size < w1.heap.size := by omega
  have d0 := ((bcell hb2).1 w.heap.size 0 lt1).trans c0
  have d1 := ((bcell hb2).1 w.heap.size 1 lt1).trans c1
  have g0 : ∀ j, w2.frozen? ⟨w.heap.size, j, none⟩ = false := fun j => ((bcell hb2).2 w.heap.size j lt1).trans (f0 j)
  have hB2 : Below w.heap.size w w2 := hB1.trans (hb2.mono hB1.size)
  clear hb2 c0 c1 f0 hB1 hcell HQ
  go_wp2
  refine bodyPost_ret (v := .tuple #[.agg #[.int .i64 x, .int .i64 y], .int .i64 0]) (by simp [results, Try.results17, go_sem, World.cell?_alloc_past, *]) rfl ⟨rfl, ?_⟩
  (repeat (first | (with_reducible refine Below.drew ?_) | (with_reducible refine below_drewN ?_ _) | (with_reducible refine Below.alloc ?_ (by first | omega | (simp; done) | (simp; omega) | (simp at *; omega)) _) | (with_reducible refine Below.setCell ?_ (by first | omega | (simp; done) | (simp; omega) | (simp at *; omega)) _) | (with_reducible exact Below.refl _ _) | (with_reducible assumption) | (with_reducible refine Below.trans ?_ (Below.mono (by assumption) (by first | omega | (simp; done) | (simp; omega) | (simp at *; omega))))))
theorem refDecayOf_any (s h : Int) (L : Nat) (w : World) (s0 : 0 ≤ s) (s1 : s ≤ 1000000) (h0 : 1 ≤ h) (h1 : h ≤ 100000) (hL : L ≤ 24) :
    Calls Try.prog 20 #[.int .i64 s, .int .i64 h, .int .i64 L] w fun e w' => e = .returned (.agg #[.int .i64 (decL s h L), .int .i64 (decH s h L)]) ∧ Below w.heap.size w w' := by
  obtain ⟨x, hx⟩ : ∃ x, Hid (decL s h L = x) := ⟨_, rfl⟩
  obtain ⟨y, hy⟩ : ∃ x, Hid (decH s h L = x) := ⟨_, rfl⟩
  rw [hx.out, hy.out]
  go_enter Try.func20, Try.ntmps20
  go_wp2_with fail
  refine (refRoots_any L _ (by omega)).mono ?_
  rintro e w1 ⟨v, rfl, hR, hb1⟩
  obtain ⟨b, cap, rfl, lt, ge, hc1, hc2, hcell⟩ := hR
  have hs1 := hb1.size
  try simp at hs1
  try simp at ge
  have c0 : w1.cell? ⟨w.heap.size, 0, none⟩ = some (.int .i64 0) := by rw [(bcell hb1).1 _ _ (by first | (simp; done) | (simp; omega) | omega)]; simp [go_sem, World.cell?_alloc_past]
  have c1 : w1.cell? ⟨w.heap.size, 1, none⟩ = some (.int .i64 0) := by rw [(bcell hb1).1 _ _ (by first | (simp; done) | (simp; omega) | omega)]; simp [go_sem, World.cell?_alloc_past]
  have f0 : ∀ j, w1.frozen? ⟨w.heap.size, j, none⟩ = false := by intro j; rw [(bcell hb1).2 _ _ (by first | (simp; done) | (simp; omega) | omega)]; simp [go_sem]
  have hB1 : Below w.heap.size w w1 := (by (repeat (first | (with_reducible refine Below.drew ?_) | (with_reducible refine below_drewN ?_ _) | (with_reducible refine Below.alloc ?_ (by first | omega | (simp; done) | (simp; omega) | (simp at *; omega)) _) | (with_reducible refine Below.setCell ?_ (by first | omega | (simp; done) | (simp; omega) | (simp at *; omega)) _) | (with_reducible exact Below.refl _ _) | (with_reducible assumption) | (with_reducible refine Below.trans ?_ (Below.mono (by assumption) (by first | omega | (simp; done) | (simp; omega) | (simp at *; omega)))))))
  clear hb1
  go_wp2_with fail
  have HQ : Calls Try.prog 77 #[.int .i64 s, .int .i64 h, .slice (some ⟨b, 0, none⟩) (L + 1) cap] w1 fun e w' => e = .returned (.agg #[.int .i64 x, .int .i64 y]) ∧ Below w1.heap.size w1 w' := by
    rw [← hx.out, ← hy.out]; exact refDecay_any s h L b cap w1 s0 s1 h0 h1 (by omega) lt hc1 hc2 hcell
  refine HQ.mono ?_
  rintro e w2 ⟨rfl, hb2⟩
  have hs2 := hb2.size
  have lt1 : w.heap.size < w1.heap.size := by omega
  have d0 := ((bcell hb2).1 w.heap.size 0 lt1).trans c0
  have d1 := ((bcell hb2).1 w.heap.size 1 lt1).trans c1
  have g0 : ∀ j, w2.frozen? ⟨w.heap.size, j, none⟩ = false := fun j => ((bcell hb2).2 w.heap.size j lt1).trans (f0 j)
  have hB2 : Below w.heap.size w w2 := hB1.trans (hb2.mono hB1.size)
  clear hb2 c0 c1 f0 hB1 hcell HQ
  go_wp2
  refine bodyPost_ret (v := .agg #[.int .i64 x, .int .i64 y]) (by simp [results, Try.results20, go_sem, World.cell?_alloc_past, *]) rfl ⟨rfl, ?_⟩
  (repeat (first | (with_reducible refine Below.drew ?_) | (with_reducible refine below_drewN ?_ _) | (with_reducible refine Below.alloc ?_ (by first | omega | (simp; done) | (simp; omega) | (simp at *; omega)) _) | (with_reducible refine Below.setCell ?_ (by first | omega | (simp; done) | (simp; omega) | (simp at *; omega)) _) | (with_reducible exact Below.refl _ _) | (with_reducible assumption) | (with_reducible refine Below.trans ?_ (Below.mono (by assumption) (by first | omega | (simp; done) | (simp; omega) | (simp at *; omega))))))
end Go.Proofs.Ytchfhhmmjioajaa
