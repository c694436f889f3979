/- The vessels behind the fills of the example: mix.CheckVessels, behind, vesselBehind, PressureOf. -/
import Derived.Test.YtjkhjjmmkdfjmaaFRoom3
import Derived.Maps.AppendAt
import Derived.Outline
namespace Go.Proofs.Ytjkhjjmmkdfjmaa
open Go.ChangeShapes Go.WideShapes Go.ChangeAt Go.RowKit
set_option linter.unusedVariables false
set_option linter.unusedSimpArgs false
attribute [local go_sem ↓] Go.wp_at_zero Go.wp_at_succ
theorem info_partsF {a : Option TypeInfo} {z : Option Value} {s b : Nat} (h : a.map (fun i => (i.zero, i.size, i.bytes)) = some (z, s, b)) : ∃ i, a = some i ∧ i.zero = z ∧ i.size = s ∧ i.bytes = b := by
  cases a with
  | none => simp at h
  | some i =>
    have h2 : (i.zero, i.size, i.bytes) = (z, s, b) := by simpa using h
    exact ⟨i, rfl, congrArg (·.1) h2, congrArg (·.2.1) h2, congrArg (·.2.2) h2⟩
theorem own_blockF {w : World} {base : Nat} {e : TypeId} {s n : Nat} {v : Value} {xs : List Value} (h : w.ownsRow base e s v n xs) : ∀ k, v.ownBlock = some k → base ≤ k := by
  intro k hk
  rcases h.2 with ⟨rfl, _⟩ | ⟨g, cap, cur, rfl, hb, _⟩
  · simp [Value.ownBlock] at hk
  · simp [Value.ownBlock] at hk; omega
theorem own_openF {w : World} {base : Nat} {e : TypeId} {s n : Nat} {v : Value} {xs : List Value} (h : w.ownsRow base e s v (n + 1) xs) : ∃ g cap, v = .slice (some ⟨g, 0, none⟩) (n + 1) cap ∧ base ≤ g ∧ g < w.heap.size ∧ (∀ j u, xs[j]? = some u → w.cell? ⟨g, j, none⟩ = some u) ∧ (∀ j, w.frozen? ⟨g, j, none⟩ = false) := by
  rcases h.2 with ⟨_, h0⟩ | ⟨g, cap, cur, rfl, hb, hg, hle, hmx, _⟩
  · omega
  · refine ⟨g, cap, rfl, hb, (Array.getElem?_eq_some_iff.1 hg).1, fun k u hk => ?_, fun j => ?_⟩
    · have c := World.ownsRow.cells h (g := g) rfl k u hk
      unfold Addr.add at c
      split at c
      · rename_i hz; subst hz; exact c
      · simpa using c
    · simp [World.frozen?, hg]
theorem CheckVessels_ex (v cap : Nat) (w : World) (a0 : w.cell? ⟨v, 0, none⟩ = some (.string ⟨#[98, 97, 110, 107]⟩)) (a1 : w.cell? ⟨v, 1, none⟩ = some (.int .i64 50000)) (a2 : w.cell? ⟨v, 2, none⟩ = some (.int .i64 300000)) (a3 : w.cell? ⟨v, 3, none⟩ = some (.string ⟨#[115, 49, 50]⟩)) (a4 : w.cell? ⟨v, 4, none⟩ = some (.int .i64 12000)) (a5 : w.cell? ⟨v, 5, none⟩ = some (.int .i64 232000)) (lv : v < w.heap.size) : Calls Try.prog 18 #[.slice (some ⟨v, 0, none⟩) 2 cap] w fun e w' => e = .returned (.int .i64 0) ∧ Below w.heap.size w w' := by
  go_enter Try.func18, Try.ntmps18
  go_wp2_with fail
  refine (named2_MixVessel ⟨#[98, 97, 110, 107]⟩ ⟨#[115, 49, 50]⟩ 50000 300000 12000 232000 v cap _ a0 a1 a2 a3 a4 a5 lv (Lib.hid (by decide)) (Lib.hid (by decide))).mono ?_
  rintro e x1 ⟨rfl, hb1⟩
  go_wp2
  go_ret
  exact ⟨rfl, hb1⟩
theorem infoHeld : (Try.prog.info? 131).map (fun i => (i.zero, i.size, i.bytes)) = some (some (.agg #[.string ⟨#[]⟩, .int .i64 0, .int .i64 0, .int .i64 0, .int .i64 0, .int .i64 0]), 6, 56) := by kernel_rfl
theorem ownsRowF_setCell_below {w : World} {base : Nat} {e : TypeId} {s n : Nat} {v : Value} {xs : List Value} (h : w.ownsRow base e s v n xs) {a : Addr} (ha : a.block < base) (u : Value) : (w.setCell a u).ownsRow base e s v n xs := by
  refine ⟨h.1, ?_⟩
  rcases h.2 with hn | ⟨g, cap, cur, rfl, hb, hg, hrest⟩
  · exact .inl hn
  · exact .inr ⟨g, cap, cur, rfl, hb, (Below.heap_setCell _ _ _ _ (by omega)).trans hg, hrest⟩
/-- The room behind the fills of the example. -/
def BehindEx (w : World) (e : Ending) (w' : World) : Prop := ∃ vb cap, e = .returned (.tuple #[.agg #[.slice (some ⟨vb, 0, none⟩) 2 cap, .int .i64 2100000, .int .i64 0, .int .i64 7900000, .int .i64 0, .int .i64 0, .int .i64 0, .int .i64 1], .int .i64 0, .int .i64 0]) ∧ w.heap.size ≤ vb ∧ vb < w'.heap.size ∧ (w'.cell? ⟨vb, 0, none⟩ = some (.string ⟨#[98, 97, 110, 107]⟩) ∧ w'.cell? ⟨vb, 1, none⟩ = some (.int .i64 50000) ∧ w'.cell? ⟨vb, 2, none⟩ = some (.int .i64 300000) ∧ w'.cell? ⟨vb, 3, none⟩ = some (.int .i64 1701000) ∧ w'.cell? ⟨vb, 4, none⟩ = some (.int .i64 0) ∧ w'.cell? ⟨vb, 5, none⟩ = some (.int .i64 6399000) ∧ w'.cell? ⟨vb, 6, none⟩ = some (.string ⟨#[115, 49, 50]⟩) ∧ w'.cell? ⟨vb, 7, none⟩ = some (.int .i64 12000) ∧ w'.cell? ⟨vb, 8, none⟩ = some (.int .i64 232000) ∧ w'.cell? ⟨vb, 9, none⟩ = some (.int .i64 399000) ∧ w'.cell? ⟨vb, 10, none⟩ = some (.int .i64 0) ∧ w'.cell? ⟨vb, 11, none⟩ = some (.int .i64 1501000)) ∧ Below w.heap.size w w'
set_option maxHeartbeats 8000000 in
set_option maxRecDepth 100000 in
theorem behind_ex (v cap f fcap : Nat) (w : World) (a0 : w.cell? ⟨v, 0, none⟩ = some (.string ⟨#[98, 97, 110, 107]⟩)) (a1 : w.cell? ⟨v, 1, none⟩ = some (.int .i64 50000)) (a2 : w.cell? ⟨v, 2, none⟩ = some (.int .i64 300000)) (a3 : w.cell? ⟨v, 3, none⟩ = some (.string ⟨#[115, 49, 50]⟩)) (a4 : w.cell? ⟨v, 4, none⟩ = some (.int .i64 12000)) (a5 : w.cell? ⟨v, 5, none⟩ = some (.int .i64 232000)) (b0 : w.cell? ⟨f, 0, none⟩ = some (.int .i64 0)) (b1 : w.cell? ⟨f, 1, none⟩ = some (.int .i64 1)) (b2 : w.cell? ⟨f, 2, none⟩ = some (.string ⟨#[]⟩)) (b3 : w.cell? ⟨f, 3, none⟩ = some (.string ⟨#[98, 97, 110, 107]⟩)) (b4 : w.cell? ⟨f, 4, none⟩ = some (.int .i64 210)) (b5 : w.cell? ⟨f, 5, none⟩ = some (.int .i64 0)) (b6 : w.cell? ⟨f, 6, none⟩ = some (.int .i64 10000000)) (b7 : w.cell? ⟨f, 7, none⟩ = some (.bool false)) (b8 : w.cell? ⟨f, 8, none⟩ = some (.int .i64 1)) (b9 : w.cell? ⟨f, 9, none⟩ = some (.int .i64 1)) (b10 : w.cell? ⟨f, 10, none⟩ = some (.string ⟨#[98, 97, 110, 107]⟩)) (b11 : w.cell? ⟨f, 11, none⟩ = some (.string ⟨#[115, 49, 50]⟩)) (b12 : w.cell? ⟨f, 12, none⟩ = some (.int .i64 0)) (b13 : w.cell? ⟨f, 13, none⟩ = some (.int .i64 0)) (b14 : w.cell? ⟨f, 14, none⟩ = some (.int .i64 1900000)) (b15 : w.cell? ⟨f, 15, none⟩ = some (.bool false)) (lv : v < w.heap.size) (lf : f < w.heap.size) : Calls Try.prog 58 #[.slice (some ⟨v, 0, none⟩) 2 cap, .slice (some ⟨f, 0, none⟩) 2 fcap] w (BehindEx w) := by
  obtain ⟨i0, hi, hz0, hz1, hz2⟩ := info_partsF infoHeld
  have HI := Lib.hid hi
  have HZ0 := Lib.hid hz0
  have HZ1 := Lib.hid hz1
  have HZ2 := Lib.hid hz2
  clear hi hz0 hz1 hz2
  have o1 : v ≠ w.heap.size := by omega
  have o2 : f ≠ w.heap.size := by omega
  have o3 : v < w.heap.size + 1 := by omega
  have o4 : f < w.heap.size + 1 := by omega
  go_enter Try.func58, Try.ntmps58
  go_wp2_with fail
  refine (CheckVessels_ex v cap _ (by simp [go_sem, World.cell?_alloc_past, *]) (by simp [go_sem, World.cell?_alloc_past, *]) (by simp [go_sem, World.cell?_alloc_past, *]) (by simp [go_sem, World.cell?_alloc_past, *]) (by simp [go_sem, World.cell?_alloc_past, *]) (by simp [go_sem, World.cell?_alloc_past, *]) (by simp; omega)).mono ?_
  rintro e xw1 ⟨rfl, hbx1⟩
  have zx1 := hbx1.size
  try simp at zx1
  obtain ⟨x1_0_0, x1_0_1, x1_0_2, x1_0_3, x1_0_4, x1_0_5, x1_0_6, x1_0_7, x1_1_0, x1_1_1, x1_1_2, x1_1_3, x1_1_4, x1_1_5, x1_2_0, x1_2_1, x1_2_2, x1_2_3, x1_2_4, x1_2_5, x1_2_6, x1_2_7, x1_2_8, x1_2_9, x1_2_10, x1_2_11, x1_2_12, x1_2_13, x1_2_14, x1_2_15⟩ : xw1.cell? ⟨w.heap.size, 0, none⟩ = some (.slice none 0 0) ∧ xw1.cell? ⟨w.heap.size, 1, none⟩ = some (.int .i64 0) ∧ xw1.cell? ⟨w.heap.size, 2, none⟩ = some (.int .i64 0) ∧ xw1.cell? ⟨w.heap.size, 3, none⟩ = some (.int .i64 0) ∧ xw1.cell? ⟨w.heap.size, 4, none⟩ = some (.int .i64 0) ∧ xw1.cell? ⟨w.heap.size, 5, none⟩ = some (.int .i64 0) ∧ xw1.cell? ⟨w.heap.size, 6, none⟩ = some (.int .i64 0) ∧ xw1.cell? ⟨w.heap.size, 7, none⟩ = some (.int .i64 0) ∧ xw1.cell? ⟨v, 0, none⟩ = some (.string ⟨#[98, 97, 110, 107]⟩) ∧ xw1.cell? ⟨v, 1, none⟩ = some (.int .i64 50000) ∧ xw1.cell? ⟨v, 2, none⟩ = some (.int .i64 300000) ∧ xw1.cell? ⟨v, 3, none⟩ = some (.string ⟨#[115, 49, 50]⟩) ∧ xw1.cell? ⟨v, 4, none⟩ = some (.int .i64 12000) ∧ xw1.cell? ⟨v, 5, none⟩ = some (.int .i64 232000) ∧ xw1.cell? ⟨f, 0, none⟩ = some (.int .i64 0) ∧ xw1.cell? ⟨f, 1, none⟩ = some (.int .i64 1) ∧ xw1.cell? ⟨f, 2, none⟩ = some (.string ⟨#[]⟩) ∧ xw1.cell? ⟨f, 3, none⟩ = some (.string ⟨#[98, 97, 110, 107]⟩) ∧ xw1.cell? ⟨f, 4, none⟩ = some (.int .i64 210) ∧ xw1.cell? ⟨f, 5, none⟩ = some (.int .i64 0) ∧ xw1.cell? ⟨f, 6, none⟩ = some (.int .i64 10000000) ∧ xw1.cell? ⟨f, 7, none⟩ = some (.bool false) ∧ xw1.cell? ⟨f, 8, none⟩ = some (.int .i64 1) ∧ xw1.cell? ⟨f, 9, none⟩ = some (.int .i64 1) ∧ xw1.cell? ⟨f, 10, none⟩ = some (.string ⟨#[98, 97, 110, 107]⟩) ∧ xw1.cell? ⟨f, 11, none⟩ = some (.string ⟨#[115, 49, 50]⟩) ∧ xw1.cell? ⟨f, 12, none⟩ = some (.int .i64 0) ∧ xw1.cell? ⟨f, 13, none⟩ = some (.int .i64 0) ∧ xw1.cell? ⟨f, 14, none⟩ = some (.int .i64 1900000) ∧ xw1.cell? ⟨f, 15, none⟩ = some (.bool false) := by refine ⟨?_, ?_, ?_, ?_, ?_, ?_, ?_, ?_, ?_, ?_, ?_, ?_, ?_, ?_, ?_, ?_, ?_, ?_, ?_, ?_, ?_, ?_, ?_, ?_, ?_, ?_, ?_, ?_, ?_, ?_⟩ <;> (rw [(bcell hbx1).1 _ _ (by first | (simp; done) | (simp; omega) | omega)]; simp [go_sem, World.cell?_alloc_past, *])
  have x1f0 : (∀ j, xw1.frozen? ⟨w.heap.size, j, none⟩ = false) := by (intro j; rw [(bcell hbx1).2 _ _ (by first | (simp; done) | (simp; omega) | omega)]; simp [go_sem, *])
  obtain ⟨x1o0, x1n0, x1t0_0, x1t0_1, x1t0_2, x1o1, x1n1, x1t1_0, x1t1_1, x1t1_2, x1o2, x1n2, x1t2_0, x1t2_1, x1t2_2⟩ : w.heap.size < xw1.heap.size ∧ xw1.heap.size ≠ w.heap.size ∧ w.heap.size < xw1.heap.size + 1 ∧ w.heap.size < xw1.heap.size + 1 + 1 ∧ w.heap.size < xw1.heap.size + 1 + 1 + 1 ∧ v < xw1.heap.size ∧ xw1.heap.size ≠ v ∧ v < xw1.heap.size + 1 ∧ v < xw1.heap.size + 1 + 1 ∧ v < xw1.heap.size + 1 + 1 + 1 ∧ f < xw1.heap.size ∧ xw1.heap.size ≠ f ∧ f < xw1.heap.size + 1 ∧ f < xw1.heap.size + 1 + 1 ∧ f < xw1.heap.size + 1 + 1 + 1 := by refine ⟨?_, ?_, ?_, ?_, ?_, ?_, ?_, ?_, ?_, ?_, ?_, ?_, ?_, ?_, ?_⟩ <;> omega
  have hBx1 : Below w.heap.size w xw1 := (by (repeat (first | (with_reducible refine Below.drew ?_) | (with_reducible refine below_drewN ?_ _) | (with_reducible refine Below.alloc ?_ (by first | omega | (simp; done) | (simp; omega) | (simp at *; omega)) _) | (with_reducible refine Below.setCell ?_ (by first | omega | (simp; done) | (simp; omega) | (simp at *; omega)) _) | (with_reducible exact Below.refl _ _) | (with_reducible assumption) | (with_reducible refine Below.trans ?_ (Below.mono (by assumption) (by first | omega | (simp; done) | (simp; omega) | (simp at *; omega)))))))
  clear hbx1 
  go_wp2_with fail
  obtain ⟨rb, hrb⟩ : ∃ r, Hid (xw1.heap.size = r) := ⟨_, Lib.hid rfl⟩
  have y0_0_0 : (xw1.alloc (.cells #[.slice none 0 0, .int .i64 0, .int .i64 0, .int .i64 0, .int .i64 0, .int .i64 0, .int .i64 0, .int .i64 0] 120)).cell? ⟨w.heap.size, 0, none⟩ = some (.slice none 0 0) := by simp [go_sem, World.cell?_alloc_past, *]
  have y0_0_1 : (xw1.alloc (.cells #[.slice none 0 0, .int .i64 0, .int .i64 0, .int .i64 0, .int .i64 0, .int .i64 0, .int .i64 0, .int .i64 0] 120)).cell? ⟨w.heap.size, 1, none⟩ = some (.int .i64 0) := by simp [go_sem, World.cell?_alloc_past, *]
  have y0_0_2 : (xw1.alloc (.cells #[.slice none 0 0, .int .i64 0, .int .i64 0, .int .i64 0, .int .i64 0, .int .i64 0, .int .i64 0, .int .i64 0] 120)).cell? ⟨w.heap.size, 2, none⟩ = some (.int .i64 0) := by simp [go_sem, World.cell?_alloc_past, *]
  have y0_0_3 : (xw1.alloc (.cells #[.slice none 0 0, .int .i64 0, .int .i64 0, .int .i64 0, .int .i64 0, .int .i64 0, .int .i64 0, .int .i64 0] 120)).cell? ⟨w.heap.size, 3, none⟩ = some (.int .i64 0) := by simp [go_sem, World.cell?_alloc_past, *]
  have y0_0_4 : (xw1.alloc (.cells #[.slice none 0 0, .int .i64 0, .int .i64 0, .int .i64 0, .int .i64 0, .int .i64 0, .int .i64 0, .int .i64 0] 120)).cell? ⟨w.heap.size, 4, none⟩ = some (.int .i64 0) := by simp [go_sem, World.cell?_alloc_past, *]
  have y0_0_5 : (xw1.alloc (.cells #[.slice none 0 0, .int .i64 0, .int .i64 0, .int .i64 0, .int .i64 0, .int .i64 0, .int .i64 0, .int .i64 0] 120)).cell? ⟨w.heap.size, 5, none⟩ = some (.int .i64 0) := by simp [go_sem, World.cell?_alloc_past, *]
  have y0_0_6 : (xw1.alloc (.cells #[.slice none 0 0, .int .i64 0, .int .i64 0, .int .i64 0, .int .i64 0, .int .i64 0, .int .i64 0, .int .i64 0] 120)).cell? ⟨w.heap.size, 6, none⟩ = some (.int .i64 0) := by simp [go_sem, World.cell?_alloc_past, *]
  have y0_0_7 : (xw1.alloc (.cells #[.slice none 0 0, .int .i64 0, .int .i64 0, .int .i64 0, .int .i64 0, .int .i64 0, .int .i64 0, .int .i64 0] 120)).cell? ⟨w.heap.size, 7, none⟩ = some (.int .i64 0) := by simp [go_sem, World.cell?_alloc_past, *]
  have y0f0 : ∀ j, (xw1.alloc (.cells #[.slice none 0 0, .int .i64 0, .int .i64 0, .int .i64 0, .int .i64 0, .int .i64 0, .int .i64 0, .int .i64 0] 120)).frozen? ⟨w.heap.size, j, none⟩ = false := fun j => by simp [go_sem, *]
  have y0_1_0 : (xw1.alloc (.cells #[.slice none 0 0, .int .i64 0, .int .i64 0, .int .i64 0, .int .i64 0, .int .i64 0, .int .i64 0, .int .i64 0] 120)).cell? ⟨v, 0, none⟩ = some (.string ⟨#[98, 97, 110, 107]⟩) := by simp [go_sem, World.cell?_alloc_past, *]
  have y0_1_1 : (xw1.alloc (.cells #[.slice none 0 0, .int .i64 0, .int .i64 0, .int .i64 0, .int .i64 0, .int .i64 0, .int .i64 0, .int .i64 0] 120)).cell? ⟨v, 1, none⟩ = some (.int .i64 50000) := by simp [go_sem, World.cell?_alloc_past, *]
  have y0_1_2 : (xw1.alloc (.cells #[.slice none 0 0, .int .i64 0, .int .i64 0, .int .i64 0, .int .i64 0, .int .i64 0, .int .i64 0, .int .i64 0] 120)).cell? ⟨v, 2, none⟩ = some (.int .i64 300000) := by simp [go_sem, World.cell?_alloc_past, *]
  have y0_1_3 : (xw1.alloc (.cells #[.slice none 0 0, .int .i64 0, .int .i64 0, .int .i64 0, .int .i64 0, .int .i64 0, .int .i64 0, .int .i64 0] 120)).cell? ⟨v, 3, none⟩ = some (.string ⟨#[115, 49, 50]⟩) := by simp [go_sem, World.cell?_alloc_past, *]
  have y0_1_4 : (xw1.alloc (.cells #[.slice none 0 0, .int .i64 0, .int .i64 0, .int .i64 0, .int .i64 0, .int .i64 0, .int .i64 0, .int .i64 0] 120)).cell? ⟨v, 4, none⟩ = some (.int .i64 12000) := by simp [go_sem, World.cell?_alloc_past, *]
  have y0_1_5 : (xw1.alloc (.cells #[.slice none 0 0, .int .i64 0, .int .i64 0, .int .i64 0, .int .i64 0, .int .i64 0, .int .i64 0, .int .i64 0] 120)).cell? ⟨v, 5, none⟩ = some (.int .i64 232000) := by simp [go_sem, World.cell?_alloc_past, *]
  have y0_2_0 : (xw1.alloc (.cells #[.slice none 0 0, .int .i64 0, .int .i64 0, .int .i64 0, .int .i64 0, .int .i64 0, .int .i64 0, .int .i64 0] 120)).cell? ⟨f, 0, none⟩ = some (.int .i64 0) := by simp [go_sem, World.cell?_alloc_past, *]
  have y0_2_1 : (xw1.alloc (.cells #[.slice none 0 0, .int .i64 0, .int .i64 0, .int .i64 0, .int .i64 0, .int .i64 0, .int .i64 0, .int .i64 0] 120)).cell? ⟨f, 1, none⟩ = some (.int .i64 1) := by simp [go_sem, World.cell?_alloc_past, *]
  have y0_2_2 : (xw1.alloc (.cells #[.slice none 0 0, .int .i64 0, .int .i64 0, .int .i64 0, .int .i64 0, .int .i64 0, .int .i64 0, .int .i64 0] 120)).cell? ⟨f, 2, none⟩ = some (.string ⟨#[]⟩) := by simp [go_sem, World.cell?_alloc_past, *]
  have y0_2_3 : (xw1.alloc (.cells #[.slice none 0 0, .int .i64 0, .int .i64 0, .int .i64 0, .int .i64 0, .int .i64 0, .int .i64 0, .int .i64 0] 120)).cell? ⟨f, 3, none⟩ = some (.string ⟨#[98, 97, 110, 107]⟩) := by simp [go_sem, World.cell?_alloc_past, *]
  have y0_2_4 : (xw1.alloc (.cells #[.slice none 0 0, .int .i64 0, .int .i64 0, .int .i64 0, .int .i64 0, .int .i64 0, .int .i64 0, .int .i64 0] 120)).cell? ⟨f, 4, none⟩ = some (.int .i64 210) := by simp [go_sem, World.cell?_alloc_past, *]
  have y0_2_5 : (xw1.alloc (.cells #[.slice none 0 0, .int .i64 0, .int .i64 0, .int .i64 0, .int .i64 0, .int .i64 0, .int .i64 0, .int .i64 0] 120)).cell? ⟨f, 5, none⟩ = some (.int .i64 0) := by simp [go_sem, World.cell?_alloc_past, *]
  have y0_2_6 : (xw1.alloc (.cells #[.slice none 0 0, .int .i64 0, .int .i64 0, .int .i64 0, .int .i64 0, .int .i64 0, .int .i64 0, .int .i64 0] 120)).cell? ⟨f, 6, none⟩ = some (.int .i64 10000000) := by simp [go_sem, World.cell?_alloc_past, *]
  have y0_2_7 : (xw1.alloc (.cells #[.slice none 0 0, .int .i64 0, .int .i64 0, .int .i64 0, .int .i64 0, .int .i64 0, .int .i64 0, .int .i64 0] 120)).cell? ⟨f, 7, none⟩ = some (.bool false) := by simp [go_sem, World.cell?_alloc_past, *]
  have y0_2_8 : (xw1.alloc (.cells #[.slice none 0 0, .int .i64 0, .int .i64 0, .int .i64 0, .int .i64 0, .int .i64 0, .int .i64 0, .int .i64 0] 120)).cell? ⟨f, 8, none⟩ = some (.int .i64 1) := by simp [go_sem, World.cell?_alloc_past, *]
  have y0_2_9 : (xw1.alloc (.cells #[.slice none 0 0, .int .i64 0, .int .i64 0, .int .i64 0, .int .i64 0, .int .i64 0, .int .i64 0, .int .i64 0] 120)).cell? ⟨f, 9, none⟩ = some (.int .i64 1) := by simp [go_sem, World.cell?_alloc_past, *]
  have y0_2_10 : (xw1.alloc (.cells #[.slice none 0 0, .int .i64 0, .int .i64 0, .int .i64 0, .int .i64 0, .int .i64 0, .int .i64 0, .int .i64 0] 120)).cell? ⟨f, 10, none⟩ = some (.string ⟨#[98, 97, 110, 107]⟩) := by simp [go_sem, World.cell?_alloc_past, *]
  have y0_2_11 : (xw1.alloc (.cells #[.slice none 0 0, .int .i64 0, .int .i64 0, .int .i64 0, .int .i64 0, .int .i64 0, .int .i64 0, .int .i64 0] 120)).cell? ⟨f, 11, none⟩ = some (.string ⟨#[115, 49, 50]⟩) := by simp [go_sem, World.cell?_alloc_past, *]
  have y0_2_12 : (xw1.alloc (.cells #[.slice none 0 0, .int .i64 0, .int .i64 0, .int .i64 0, .int .i64 0, .int .i64 0, .int .i64 0, .int .i64 0] 120)).cell? ⟨f, 12, none⟩ = some (.int .i64 0) := by simp [go_sem, World.cell?_alloc_past, *]
  have y0_2_13 : (xw1.alloc (.cells #[.slice none 0 0, .int .i64 0, .int .i64 0, .int .i64 0, .int .i64 0, .int .i64 0, .int .i64 0, .int .i64 0] 120)).cell? ⟨f, 13, none⟩ = some (.int .i64 0) := by simp [go_sem, World.cell?_alloc_past, *]
  have y0_2_14 : (xw1.alloc (.cells #[.slice none 0 0, .int .i64 0, .int .i64 0, .int .i64 0, .int .i64 0, .int .i64 0, .int .i64 0, .int .i64 0] 120)).cell? ⟨f, 14, none⟩ = some (.int .i64 1900000) := by simp [go_sem, World.cell?_alloc_past, *]
  have y0_2_15 : (xw1.alloc (.cells #[.slice none 0 0, .int .i64 0, .int .i64 0, .int .i64 0, .int .i64 0, .int .i64 0, .int .i64 0, .int .i64 0] 120)).cell? ⟨f, 15, none⟩ = some (.bool false) := by simp [go_sem, World.cell?_alloc_past, *]
  have y0_3_0 : (xw1.alloc (.cells #[.slice none 0 0, .int .i64 0, .int .i64 0, .int .i64 0, .int .i64 0, .int .i64 0, .int .i64 0, .int .i64 0] 120)).cell? ⟨xw1.heap.size, 0, none⟩ = some (.slice none 0 0) := by simp [go_sem, World.cell?_alloc_past, *]
  have y0_3_1 : (xw1.alloc (.cells #[.slice none 0 0, .int .i64 0, .int .i64 0, .int .i64 0, .int .i64 0, .int .i64 0, .int .i64 0, .int .i64 0] 120)).cell? ⟨xw1.heap.size, 1, none⟩ = some (.int .i64 0) := by simp [go_sem, World.cell?_alloc_past, *]
  have y0_3_2 : (xw1.alloc (.cells #[.slice none 0 0, .int .i64 0, .int .i64 0, .int .i64 0, .int .i64 0, .int .i64 0, .int .i64 0, .int .i64 0] 120)).cell? ⟨xw1.heap.size, 2, none⟩ = some (.int .i64 0) := by simp [go_sem, World.cell?_alloc_past, *]
  have y0_3_3 : (xw1.alloc (.cells #[.slice none 0 0, .int .i64 0, .int .i64 0, .int .i64 0, .int .i64 0, .int .i64 0, .int .i64 0, .int .i64 0] 120)).cell? ⟨xw1.heap.size, 3, none⟩ = some (.int .i64 0) := by simp [go_sem, World.cell?_alloc_past, *]
  have y0_3_4 : (xw1.alloc (.cells #[.slice none 0 0, .int .i64 0, .int .i64 0, .int .i64 0, .int .i64 0, .int .i64 0, .int .i64 0, .int .i64 0] 120)).cell? ⟨xw1.heap.size, 4, none⟩ = some (.int .i64 0) := by simp [go_sem, World.cell?_alloc_past, *]
  have y0_3_5 : (xw1.alloc (.cells #[.slice none 0 0, .int .i64 0, .int .i64 0, .int .i64 0, .int .i64 0, .int .i64 0, .int .i64 0, .int .i64 0] 120)).cell? ⟨xw1.heap.size, 5, none⟩ = some (.int .i64 0) := by simp [go_sem, World.cell?_alloc_past, *]
  have y0_3_6 : (xw1.alloc (.cells #[.slice none 0 0, .int .i64 0, .int .i64 0, .int .i64 0, .int .i64 0, .int .i64 0, .int .i64 0, .int .i64 0] 120)).cell? ⟨xw1.heap.size, 6, none⟩ = some (.int .i64 0) := by simp [go_sem, World.cell?_alloc_past, *]
  have y0_3_7 : (xw1.alloc (.cells #[.slice none 0 0, .int .i64 0, .int .i64 0, .int .i64 0, .int .i64 0, .int .i64 0, .int .i64 0, .int .i64 0] 120)).cell? ⟨xw1.heap.size, 7, none⟩ = some (.int .i64 0) := by simp [go_sem, World.cell?_alloc_past, *]
  have y0f3 : ∀ j, (xw1.alloc (.cells #[.slice none 0 0, .int .i64 0, .int .i64 0, .int .i64 0, .int .i64 0, .int .i64 0, .int .i64 0, .int .i64 0] 120)).frozen? ⟨xw1.heap.size, j, none⟩ = false := fun j => by simp [go_sem, *]
  have hBy0 : Below w.heap.size w (xw1.alloc (.cells #[.slice none 0 0, .int .i64 0, .int .i64 0, .int .i64 0, .int .i64 0, .int .i64 0, .int .i64 0, .int .i64 0] 120)) := hBx1.alloc hBx1.size _
  have hzy0 : (xw1.alloc (.cells #[.slice none 0 0, .int .i64 0, .int .i64 0, .int .i64 0, .int .i64 0, .int .i64 0, .int .i64 0, .int .i64 0] 120)).heap.size = xw1.heap.size + 1 := by simp
  have lw0 : w.heap.size < xw1.heap.size := by omega
  clear x1_0_0 x1_0_1 x1_0_2 x1_0_3 x1_0_4 x1_0_5 x1_0_6 x1_0_7 x1_1_0 x1_1_1 x1_1_2 x1_1_3 x1_1_4 x1_1_5 x1_2_0 x1_2_1 x1_2_2 x1_2_3 x1_2_4 x1_2_5 x1_2_6 x1_2_7 x1_2_8 x1_2_9 x1_2_10 x1_2_11 x1_2_12 x1_2_13 x1_2_14 x1_2_15 x1f0 x1o0 x1n0 x1t0_0 x1t0_1 x1t0_2 x1o1 x1n1 x1t1_0 x1t1_1 x1t1_2 x1o2 x1n2 x1t2_0 x1t2_1 x1t2_2 hBx1
  generalize hW : xw1.alloc (.cells #[.slice none 0 0, .int .i64 0, .int .i64 0, .int .i64 0, .int .i64 0, .int .i64 0, .int .i64 0, .int .i64 0] 120) = y0 at *
  clear hW
  rw [hrb.out] at *
  clear hrb
  have u0l0 : w.heap.size < y0.heap.size := by omega
  have u0n0 : y0.heap.size ≠ w.heap.size := by omega
  have u0t00 : w.heap.size < y0.heap.size + 1 := by omega
  have u0t01 : w.heap.size < y0.heap.size + 1 + 1 := by omega
  have u0t02 : w.heap.size < y0.heap.size + 1 + 1 + 1 := by omega
  have u0l1 : v < y0.heap.size := by omega
  have u0n1 : y0.heap.size ≠ v := by omega
  have u0t10 : v < y0.heap.size + 1 := by omega
  have u0t11 : v < y0.heap.size + 1 + 1 := by omega
  have u0t12 : v < y0.heap.size + 1 + 1 + 1 := by omega
  have u0l2 : f < y0.heap.size := by omega
  have u0n2 : y0.heap.size ≠ f := by omega
  have u0t20 : f < y0.heap.size + 1 := by omega
  have u0t21 : f < y0.heap.size + 1 + 1 := by omega
  have u0t22 : f < y0.heap.size + 1 + 1 + 1 := by omega
  have u0l3 : rb < y0.heap.size := by omega
  have u0n3 : y0.heap.size ≠ rb := by omega
  have u0t30 : rb < y0.heap.size + 1 := by omega
  have u0t31 : rb < y0.heap.size + 1 + 1 := by omega
  have u0t32 : rb < y0.heap.size + 1 + 1 + 1 := by omega
  have hzl0 : rb + 1 ≤ y0.heap.size := by omega
  clear hzy0
  have d1 : w.heap.size ≠ rb := by omega
  have d2 : v ≠ rb := by omega
  have d3 : f ≠ rb := by omega
  have d4 : rb ≠ w.heap.size := by omega
  have d5 : rb ≠ v := by omega
  have d6 : rb ≠ f := by omega
  have d7 : v ≠ w.heap.size := by omega
  have d8 : f ≠ w.heap.size := by omega
  have d9 : w.heap.size ≠ v := by omega
  have d10 : w.heap.size ≠ f := by omega
  have HO0 : Hid (y0.ownsRow (rb + 1) 131 6 (.slice none 0 0) 0 []) := Lib.hid ⟨rfl, .inl ⟨rfl, rfl⟩⟩
  refine wp_loop_rounds 3 ?_
  rw [rounds_succ]
  go_wp2_with (at_builtin; refine wpList_append_own_at _ rfl _ _ 118 rfl (rb + 1) 131 i0 (.agg #[.string ⟨#[]⟩, .int .i64 0, .int .i64 0, .int .i64 0, .int .i64 0, .int .i64 0]) 6 56 Try.underlying118 HI.out HZ0.out HZ1.out HZ2.out rfl (by decide) _ _ _ rfl (by exact World.ownsRow.alloc (World.ownsRow.alloc HO0.out _) _) ⟨y0.heap.size + 1, 0, none⟩ 1 1 [.string ⟨#[98, 97, 110, 107]⟩, .int .i64 50000, .int .i64 300000, .int .i64 0, .int .i64 0, .int .i64 0] rfl rfl ?c0 ?c1 ?c2 ?c3 ?c4 ?_)
  case c0 =>
    intro j u hj
    match j, hj with
    | 0, hj => simp at hj; subst hj; simp [Addr.add, go_sem]
    | 1, hj => simp at hj; subst hj; simp [Addr.add, go_sem]
    | 2, hj => simp at hj; subst hj; simp [Addr.add, go_sem]
    | 3, hj => simp at hj; subst hj; simp [Addr.add, go_sem]
    | 4, hj => simp at hj; subst hj; simp [Addr.add, go_sem]
    | 5, hj => simp at hj; subst hj; simp [Addr.add, go_sem]
  case c1 => intro u hu; simp at hu; rcases hu with rfl | rfl | rfl | rfl <;> rfl
  case c2 => unfold maxLen; omega
  case c3 => omega
  case c4 => simp; omega
  intro v1 g1 hown1 hgrow1 hnn1 hblk1
  obtain ⟨vb1, vc1, rfl, og1, oh1, oc1, of1⟩ := own_openF (n := 0) hown1
  clear oc1 of1 oh1
  have ob1 := own_blockF HO0.out
  have HW1 := Lib.hid hown1
  have hBr1 := (Below.refl (rb + 1) _).grown hgrow1 (by simp; omega) (fun q hq => by have := ob1 q hq; omega)
  have hBw1 : Below w.heap.size w ((y0.alloc (.cells #[.string ⟨#[98, 97, 110, 107]⟩, .int .i64 50000, .int .i64 300000] 69)).alloc (.cells #[.string ⟨#[98, 97, 110, 107]⟩, .int .i64 50000, .int .i64 300000, .int .i64 0, .int .i64 0, .int .i64 0] 131)) := (hBy0.alloc hBy0.size _).alloc (hBy0.alloc hBy0.size _).size _
  have hBg1 : Below w.heap.size w g1 := hBw1.grown hgrow1 (by simp; omega) (fun q hq => by have := ob1 q hq; omega)
  have hzg1 := hgrow1.size
  try simp at hzg1
  have g1_0_0 : g1.cell? ⟨w.heap.size, 0, none⟩ = some (.slice none 0 0) := by rw [hBr1.cell (p := ⟨w.heap.size, 0, none⟩) (show w.heap.size < rb + 1 by omega)]; simp [go_sem, World.cell?_alloc_past, *]
  have g1_0_1 : g1.cell? ⟨w.heap.size, 1, none⟩ = some (.int .i64 0) := by rw [hBr1.cell (p := ⟨w.heap.size, 1, none⟩) (show w.heap.size < rb + 1 by omega)]; simp [go_sem, World.cell?_alloc_past, *]
  have g1_0_2 : g1.cell? ⟨w.heap.size, 2, none⟩ = some (.int .i64 0) := by rw [hBr1.cell (p := ⟨w.heap.size, 2, none⟩) (show w.heap.size < rb + 1 by omega)]; simp [go_sem, World.cell?_alloc_past, *]
  have g1_0_3 : g1.cell? ⟨w.heap.size, 3, none⟩ = some (.int .i64 0) := by rw [hBr1.cell (p := ⟨w.heap.size, 3, none⟩) (show w.heap.size < rb + 1 by omega)]; simp [go_sem, World.cell?_alloc_past, *]
  have g1_0_4 : g1.cell? ⟨w.heap.size, 4, none⟩ = some (.int .i64 0) := by rw [hBr1.cell (p := ⟨w.heap.size, 4, none⟩) (show w.heap.size < rb + 1 by omega)]; simp [go_sem, World.cell?_alloc_past, *]
  have g1_0_5 : g1.cell? ⟨w.heap.size, 5, none⟩ = some (.int .i64 0) := by rw [hBr1.cell (p := ⟨w.heap.size, 5, none⟩) (show w.heap.size < rb + 1 by omega)]; simp [go_sem, World.cell?_alloc_past, *]
  have g1_0_6 : g1.cell? ⟨w.heap.size, 6, none⟩ = some (.int .i64 0) := by rw [hBr1.cell (p := ⟨w.heap.size, 6, none⟩) (show w.heap.size < rb + 1 by omega)]; simp [go_sem, World.cell?_alloc_past, *]
  have g1_0_7 : g1.cell? ⟨w.heap.size, 7, none⟩ = some (.int .i64 0) := by rw [hBr1.cell (p := ⟨w.heap.size, 7, none⟩) (show w.heap.size < rb + 1 by omega)]; simp [go_sem, World.cell?_alloc_past, *]
  have g1f0 : ∀ j, g1.frozen? ⟨w.heap.size, j, none⟩ = false := fun j => by rw [hBr1.frozen (p := ⟨w.heap.size, j, none⟩) (show w.heap.size < rb + 1 by omega)]; simp [go_sem, *]
  have g1_1_0 : g1.cell? ⟨v, 0, none⟩ = some (.string ⟨#[98, 97, 110, 107]⟩) := by rw [hBr1.cell (p := ⟨v, 0, none⟩) (show v < rb + 1 by omega)]; simp [go_sem, World.cell?_alloc_past, *]
  have g1_1_1 : g1.cell? ⟨v, 1, none⟩ = some (.int .i64 50000) := by rw [hBr1.cell (p := ⟨v, 1, none⟩) (show v < rb + 1 by omega)]; simp [go_sem, World.cell?_alloc_past, *]
  have g1_1_2 : g1.cell? ⟨v, 2, none⟩ = some (.int .i64 300000) := by rw [hBr1.cell (p := ⟨v, 2, none⟩) (show v < rb + 1 by omega)]; simp [go_sem, World.cell?_alloc_past, *]
  have g1_1_3 : g1.cell? ⟨v, 3, none⟩ = some (.string ⟨#[115, 49, 50]⟩) := by rw [hBr1.cell (p := ⟨v, 3, none⟩) (show v < rb + 1 by omega)]; simp [go_sem, World.cell?_alloc_past, *]
  have g1_1_4 : g1.cell? ⟨v, 4, none⟩ = some (.int .i64 12000) := by rw [hBr1.cell (p := ⟨v, 4, none⟩) (show v < rb + 1 by omega)]; simp [go_sem, World.cell?_alloc_past, *]
  have g1_1_5 : g1.cell? ⟨v, 5, none⟩ = some (.int .i64 232000) := by rw [hBr1.cell (p := ⟨v, 5, none⟩) (show v < rb + 1 by omega)]; simp [go_sem, World.cell?_alloc_past, *]
  have g1_2_0 : g1.cell? ⟨f, 0, none⟩ = some (.int .i64 0) := by rw [hBr1.cell (p := ⟨f, 0, none⟩) (show f < rb + 1 by omega)]; simp [go_sem, World.cell?_alloc_past, *]
  have g1_2_1 : g1.cell? ⟨f, 1, none⟩ = some (.int .i64 1) := by rw [hBr1.cell (p := ⟨f, 1, none⟩) (show f < rb + 1 by omega)]; simp [go_sem, World.cell?_alloc_past, *]
  have g1_2_2 : g1.cell? ⟨f, 2, none⟩ = some (.string ⟨#[]⟩) := by rw [hBr1.cell (p := ⟨f, 2, none⟩) (show f < rb + 1 by omega)]; simp [go_sem, World.cell?_alloc_past, *]
  have g1_2_3 : g1.cell? ⟨f, 3, none⟩ = some (.string ⟨#[98, 97, 110, 107]⟩) := by rw [hBr1.cell (p := ⟨f, 3, none⟩) (show f < rb + 1 by omega)]; simp [go_sem, World.cell?_alloc_past, *]
  have g1_2_4 : g1.cell? ⟨f, 4, none⟩ = some (.int .i64 210) := by rw [hBr1.cell (p := ⟨f, 4, none⟩) (show f < rb + 1 by omega)]; simp [go_sem, World.cell?_alloc_past, *]
  have g1_2_5 : g1.cell? ⟨f, 5, none⟩ = some (.int .i64 0) := by rw [hBr1.cell (p := ⟨f, 5, none⟩) (show f < rb + 1 by omega)]; simp [go_sem, World.cell?_alloc_past, *]
  have g1_2_6 : g1.cell? ⟨f, 6, none⟩ = some (.int .i64 10000000) := by rw [hBr1.cell (p := ⟨f, 6, none⟩) (show f < rb + 1 by omega)]; simp [go_sem, World.cell?_alloc_past, *]
  have g1_2_7 : g1.cell? ⟨f, 7, none⟩ = some (.bool false) := by rw [hBr1.cell (p := ⟨f, 7, none⟩) (show f < rb + 1 by omega)]; simp [go_sem, World.cell?_alloc_past, *]
  have g1_2_8 : g1.cell? ⟨f, 8, none⟩ = some (.int .i64 1) := by rw [hBr1.cell (p := ⟨f, 8, none⟩) (show f < rb + 1 by omega)]; simp [go_sem, World.cell?_alloc_past, *]
  have g1_2_9 : g1.cell? ⟨f, 9, none⟩ = some (.int .i64 1) := by rw [hBr1.cell (p := ⟨f, 9, none⟩) (show f < rb + 1 by omega)]; simp [go_sem, World.cell?_alloc_past, *]
  have g1_2_10 : g1.cell? ⟨f, 10, none⟩ = some (.string ⟨#[98, 97, 110, 107]⟩) := by rw [hBr1.cell (p := ⟨f, 10, none⟩) (show f < rb + 1 by omega)]; simp [go_sem, World.cell?_alloc_past, *]
  have g1_2_11 : g1.cell? ⟨f, 11, none⟩ = some (.string ⟨#[115, 49, 50]⟩) := by rw [hBr1.cell (p := ⟨f, 11, none⟩) (show f < rb + 1 by omega)]; simp [go_sem, World.cell?_alloc_past, *]
  have g1_2_12 : g1.cell? ⟨f, 12, none⟩ = some (.int .i64 0) := by rw [hBr1.cell (p := ⟨f, 12, none⟩) (show f < rb + 1 by omega)]; simp [go_sem, World.cell?_alloc_past, *]
  have g1_2_13 : g1.cell? ⟨f, 13, none⟩ = some (.int .i64 0) := by rw [hBr1.cell (p := ⟨f, 13, none⟩) (show f < rb + 1 by omega)]; simp [go_sem, World.cell?_alloc_past, *]
  have g1_2_14 : g1.cell? ⟨f, 14, none⟩ = some (.int .i64 1900000) := by rw [hBr1.cell (p := ⟨f, 14, none⟩) (show f < rb + 1 by omega)]; simp [go_sem, World.cell?_alloc_past, *]
  have g1_2_15 : g1.cell? ⟨f, 15, none⟩ = some (.bool false) := by rw [hBr1.cell (p := ⟨f, 15, none⟩) (show f < rb + 1 by omega)]; simp [go_sem, World.cell?_alloc_past, *]
  have g1_3_0 : g1.cell? ⟨rb, 0, none⟩ = some (.slice none 0 0) := by rw [hBr1.cell (p := ⟨rb, 0, none⟩) (show rb < rb + 1 by omega)]; simp [go_sem, World.cell?_alloc_past, *]
  have g1_3_1 : g1.cell? ⟨rb, 1, none⟩ = some (.int .i64 0) := by rw [hBr1.cell (p := ⟨rb, 1, none⟩) (show rb < rb + 1 by omega)]; simp [go_sem, World.cell?_alloc_past, *]
  have g1_3_2 : g1.cell? ⟨rb, 2, none⟩ = some (.int .i64 0) := by rw [hBr1.cell (p := ⟨rb, 2, none⟩) (show rb < rb + 1 by omega)]; simp [go_sem, World.cell?_alloc_past, *]
  have g1_3_3 : g1.cell? ⟨rb, 3, none⟩ = some (.int .i64 0) := by rw [hBr1.cell (p := ⟨rb, 3, none⟩) (show rb < rb + 1 by omega)]; simp [go_sem, World.cell?_alloc_past, *]
  have g1_3_4 : g1.cell? ⟨rb, 4, none⟩ = some (.int .i64 0) := by rw [hBr1.cell (p := ⟨rb, 4, none⟩) (show rb < rb + 1 by omega)]; simp [go_sem, World.cell?_alloc_past, *]
  have g1_3_5 : g1.cell? ⟨rb, 5, none⟩ = some (.int .i64 0) := by rw [hBr1.cell (p := ⟨rb, 5, none⟩) (show rb < rb + 1 by omega)]; simp [go_sem, World.cell?_alloc_past, *]
  have g1_3_6 : g1.cell? ⟨rb, 6, none⟩ = some (.int .i64 0) := by rw [hBr1.cell (p := ⟨rb, 6, none⟩) (show rb < rb + 1 by omega)]; simp [go_sem, World.cell?_alloc_past, *]
  have g1_3_7 : g1.cell? ⟨rb, 7, none⟩ = some (.int .i64 0) := by rw [hBr1.cell (p := ⟨rb, 7, none⟩) (show rb < rb + 1 by omega)]; simp [go_sem, World.cell?_alloc_past, *]
  have g1f3 : ∀ j, g1.frozen? ⟨rb, j, none⟩ = false := fun j => by rw [hBr1.frozen (p := ⟨rb, j, none⟩) (show rb < rb + 1 by omega)]; simp [go_sem, *]
  have HOg1 : Hid ((g1.setCell ⟨rb, 0, none⟩ (.slice (some ⟨vb1, 0, none⟩) 1 vc1)).ownsRow (rb + 1) 131 6 (.slice (some ⟨vb1, 0, none⟩) 1 vc1) 1 [.string ⟨#[98, 97, 110, 107]⟩, .int .i64 50000, .int .i64 300000, .int .i64 0, .int .i64 0, .int .i64 0]) := Lib.hid (ownsRowF_setCell_below HW1.out (by show rb < rb + 1; omega) _)
  clear hown1 hgrow1 hnn1 hblk1 hBr1 hBw1 ob1 HW1 HO0 y0_0_0 y0_0_1 y0_0_2 y0_0_3 y0_0_4 y0_0_5 y0_0_6 y0_0_7 y0f0 y0_1_0 y0_1_1 y0_1_2 y0_1_3 y0_1_4 y0_1_5 y0_2_0 y0_2_1 y0_2_2 y0_2_3 y0_2_4 y0_2_5 y0_2_6 y0_2_7 y0_2_8 y0_2_9 y0_2_10 y0_2_11 y0_2_12 y0_2_13 y0_2_14 y0_2_15 y0_3_0 y0_3_1 y0_3_2 y0_3_3 y0_3_4 y0_3_5 y0_3_6 y0_3_7 y0f3 u0l0 u0n0 u0t00 u0t01 u0t02 u0l1 u0n1 u0t10 u0t11 u0t12 u0l2 u0n2 u0t20 u0t21 u0t22 u0l3 u0n3 u0t30 u0t31 u0t32 hBy0
  have w1_l0 : w.heap.size < g1.heap.size := by omega
  have w1_n0 : g1.heap.size ≠ w.heap.size := by omega
  have w1_t00 : w.heap.size < g1.heap.size + 1 := by omega
  have w1_t01 : w.heap.size < g1.heap.size + 1 + 1 := by omega
  have w1_t02 : w.heap.size < g1.heap.size + 1 + 1 + 1 := by omega
  have w1_l1 : v < g1.heap.size := by omega
  have w1_n1 : g1.heap.size ≠ v := by omega
  have w1_t10 : v < g1.heap.size + 1 := by omega
  have w1_t11 : v < g1.heap.size + 1 + 1 := by omega
  have w1_t12 : v < g1.heap.size + 1 + 1 + 1 := by omega
  have w1_l2 : f < g1.heap.size := by omega
  have w1_n2 : g1.heap.size ≠ f := by omega
  have w1_t20 : f < g1.heap.size + 1 := by omega
  have w1_t21 : f < g1.heap.size + 1 + 1 := by omega
  have w1_t22 : f < g1.heap.size + 1 + 1 + 1 := by omega
  have w1_l3 : rb < g1.heap.size := by omega
  have w1_n3 : g1.heap.size ≠ rb := by omega
  have w1_t30 : rb < g1.heap.size + 1 := by omega
  have w1_t31 : rb < g1.heap.size + 1 + 1 := by omega
  have w1_t32 : rb < g1.heap.size + 1 + 1 + 1 := by omega
  go_wp2_with fail
  have y1_0_0 : (g1.setCell ⟨rb, 0, none⟩ (.slice (some ⟨vb1, 0, none⟩) 1 vc1)).cell? ⟨w.heap.size, 0, none⟩ = some (.slice none 0 0) := by simp [go_sem, World.cell?_alloc_past, *]
  have y1_0_1 : (g1.setCell ⟨rb, 0, none⟩ (.slice (some ⟨vb1, 0, none⟩) 1 vc1)).cell? ⟨w.heap.size, 1, none⟩ = some (.int .i64 0) := by simp [go_sem, World.cell?_alloc_past, *]
  have y1_0_2 : (g1.setCell ⟨rb, 0, none⟩ (.slice (some ⟨vb1, 0, none⟩) 1 vc1)).cell? ⟨w.heap.size, 2, none⟩ = some (.int .i64 0) := by simp [go_sem, World.cell?_alloc_past, *]
  have y1_0_3 : (g1.setCell ⟨rb, 0, none⟩ (.slice (some ⟨vb1, 0, none⟩) 1 vc1)).cell? ⟨w.heap.size, 3, none⟩ = some (.int .i64 0) := by simp [go_sem, World.cell?_alloc_past, *]
  have y1_0_4 : (g1.setCell ⟨rb, 0, none⟩ (.slice (some ⟨vb1, 0, none⟩) 1 vc1)).cell? ⟨w.heap.size, 4, none⟩ = some (.int .i64 0) := by simp [go_sem, World.cell?_alloc_past, *]
  have y1_0_5 : (g1.setCell ⟨rb, 0, none⟩ (.slice (some ⟨vb1, 0, none⟩) 1 vc1)).cell? ⟨w.heap.size, 5, none⟩ = some (.int .i64 0) := by simp [go_sem, World.cell?_alloc_past, *]
  have y1_0_6 : (g1.setCell ⟨rb, 0, none⟩ (.slice (some ⟨vb1, 0, none⟩) 1 vc1)).cell? ⟨w.heap.size, 6, none⟩ = some (.int .i64 0) := by simp [go_sem, World.cell?_alloc_past, *]
  have y1_0_7 : (g1.setCell ⟨rb, 0, none⟩ (.slice (some ⟨vb1, 0, none⟩) 1 vc1)).cell? ⟨w.heap.size, 7, none⟩ = some (.int .i64 0) := by simp [go_sem, World.cell?_alloc_past, *]
  have y1f0 : ∀ j, (g1.setCell ⟨rb, 0, none⟩ (.slice (some ⟨vb1, 0, none⟩) 1 vc1)).frozen? ⟨w.heap.size, j, none⟩ = false := fun j => by simp [go_sem, *]
  have y1_1_0 : (g1.setCell ⟨rb, 0, none⟩ (.slice (some ⟨vb1, 0, none⟩) 1 vc1)).cell? ⟨v, 0, none⟩ = some (.string ⟨#[98, 97, 110, 107]⟩) := by simp [go_sem, World.cell?_alloc_past, *]
  have y1_1_1 : (g1.setCell ⟨rb, 0, none⟩ (.slice (some ⟨vb1, 0, none⟩) 1 vc1)).cell? ⟨v, 1, none⟩ = some (.int .i64 50000) := by simp [go_sem, World.cell?_alloc_past, *]
  have y1_1_2 : (g1.setCell ⟨rb, 0, none⟩ (.slice (some ⟨vb1, 0, none⟩) 1 vc1)).cell? ⟨v, 2, none⟩ = some (.int .i64 300000) := by simp [go_sem, World.cell?_alloc_past, *]
  have y1_1_3 : (g1.setCell ⟨rb, 0, none⟩ (.slice (some ⟨vb1, 0, none⟩) 1 vc1)).cell? ⟨v, 3, none⟩ = some (.string ⟨#[115, 49, 50]⟩) := by simp [go_sem, World.cell?_alloc_past, *]
  have y1_1_4 : (g1.setCell ⟨rb, 0, none⟩ (.slice (some ⟨vb1, 0, none⟩) 1 vc1)).cell? ⟨v, 4, none⟩ = some (.int .i64 12000) := by simp [go_sem, World.cell?_alloc_past, *]
  have y1_1_5 : (g1.setCell ⟨rb, 0, none⟩ (.slice (some ⟨vb1, 0, none⟩) 1 vc1)).cell? ⟨v, 5, none⟩ = some (.int .i64 232000) := by simp [go_sem, World.cell?_alloc_past, *]
  have y1_2_0 : (g1.setCell ⟨rb, 0, none⟩ (.slice (some ⟨vb1, 0, none⟩) 1 vc1)).cell? ⟨f, 0, none⟩ = some (.int .i64 0) := by simp [go_sem, World.cell?_alloc_past, *]
  have y1_2_1 : (g1.setCell ⟨rb, 0, none⟩ (.slice (some ⟨vb1, 0, none⟩) 1 vc1)).cell? ⟨f, 1, none⟩ = some (.int .i64 1) := by simp [go_sem, World.cell?_alloc_past, *]
  have y1_2_2 : (g1.setCell ⟨rb, 0, none⟩ (.slice (some ⟨vb1, 0, none⟩) 1 vc1)).cell? ⟨f, 2, none⟩ = some (.string ⟨#[]⟩) := by simp [go_sem, World.cell?_alloc_past, *]
  have y1_2_3 : (g1.setCell ⟨rb, 0, none⟩ (.slice (some ⟨vb1, 0, none⟩) 1 vc1)).cell? ⟨f, 3, none⟩ = some (.string ⟨#[98, 97, 110, 107]⟩) := by simp [go_sem, World.cell?_alloc_past, *]
  have y1_2_4 : (g1.setCell ⟨rb, 0, none⟩ (.slice (some ⟨vb1, 0, none⟩) 1 vc1)).cell? ⟨f, 4, none⟩ = some (.int .i64 210) := by simp [go_sem, World.cell?_alloc_past, *]
  have y1_2_5 : (g1.setCell ⟨rb, 0, none⟩ (.slice (some ⟨vb1, 0, none⟩) 1 vc1)).cell? ⟨f, 5, none⟩ = some (.int .i64 0) := by simp [go_sem, World.cell?_alloc_past, *]
  have y1_2_6 : (g1.setCell ⟨rb, 0, none⟩ (.slice (some ⟨vb1, 0, none⟩) 1 vc1)).cell? ⟨f, 6, none⟩ = some (.int .i64 10000000) := by simp [go_sem, World.cell?_alloc_past, *]
  have y1_2_7 : (g1.setCell ⟨rb, 0, none⟩ (.slice (some ⟨vb1, 0, none⟩) 1 vc1)).cell? ⟨f, 7, none⟩ = some (.bool false) := by simp [go_sem, World.cell?_alloc_past, *]
  have y1_2_8 : (g1.setCell ⟨rb, 0, none⟩ (.slice (some ⟨vb1, 0, none⟩) 1 vc1)).cell? ⟨f, 8, none⟩ = some (.int .i64 1) := by simp [go_sem, World.cell?_alloc_past, *]
  have y1_2_9 : (g1.setCell ⟨rb, 0, none⟩ (.slice (some ⟨vb1, 0, none⟩) 1 vc1)).cell? ⟨f, 9, none⟩ = some (.int .i64 1) := by simp [go_sem, World.cell?_alloc_past, *]
  have y1_2_10 : (g1.setCell ⟨rb, 0, none⟩ (.slice (some ⟨vb1, 0, none⟩) 1 vc1)).cell? ⟨f, 10, none⟩ = some (.string ⟨#[98, 97, 110, 107]⟩) := by simp [go_sem, World.cell?_alloc_past, *]
  have y1_2_11 : (g1.setCell ⟨rb, 0, none⟩ (.slice (some ⟨vb1, 0, none⟩) 1 vc1)).cell? ⟨f, 11, none⟩ = some (.string ⟨#[115, 49, 50]⟩) := by simp [go_sem, World.cell?_alloc_past, *]
  have y1_2_12 : (g1.setCell ⟨rb, 0, none⟩ (.slice (some ⟨vb1, 0, none⟩) 1 vc1)).cell? ⟨f, 12, none⟩ = some (.int .i64 0) := by simp [go_sem, World.cell?_alloc_past, *]
  have y1_2_13 : (g1.setCell ⟨rb, 0, none⟩ (.slice (some ⟨vb1, 0, none⟩) 1 vc1)).cell? ⟨f, 13, none⟩ = some (.int .i64 0) := by simp [go_sem, World.cell?_alloc_past, *]
  have y1_2_14 : (g1.setCell ⟨rb, 0, none⟩ (.slice (some ⟨vb1, 0, none⟩) 1 vc1)).cell? ⟨f, 14, none⟩ = some (.int .i64 1900000) := by simp [go_sem, World.cell?_alloc_past, *]
  have y1_2_15 : (g1.setCell ⟨rb, 0, none⟩ (.slice (some ⟨vb1, 0, none⟩) 1 vc1)).cell? ⟨f, 15, none⟩ = some (.bool false) := by simp [go_sem, World.cell?_alloc_past, *]
  have y1_3_0 : (g1.setCell ⟨rb, 0, none⟩ (.slice (some ⟨vb1, 0, none⟩) 1 vc1)).cell? ⟨rb, 0, none⟩ = some (.slice (some ⟨vb1, 0, none⟩) 1 vc1) := by simp [go_sem, World.cell?_alloc_past, *]
  have y1_3_1 : (g1.setCell ⟨rb, 0, none⟩ (.slice (some ⟨vb1, 0, none⟩) 1 vc1)).cell? ⟨rb, 1, none⟩ = some (.int .i64 0) := by simp [go_sem, World.cell?_alloc_past, *]
  have y1_3_2 : (g1.setCell ⟨rb, 0, none⟩ (.slice (some ⟨vb1, 0, none⟩) 1 vc1)).cell? ⟨rb, 2, none⟩ = some (.int .i64 0) := by simp [go_sem, World.cell?_alloc_past, *]
  have y1_3_3 : (g1.setCell ⟨rb, 0, none⟩ (.slice (some ⟨vb1, 0, none⟩) 1 vc1)).cell? ⟨rb, 3, none⟩ = some (.int .i64 0) := by simp [go_sem, World.cell?_alloc_past, *]
  have y1_3_4 : (g1.setCell ⟨rb, 0, none⟩ (.slice (some ⟨vb1, 0, none⟩) 1 vc1)).cell? ⟨rb, 4, none⟩ = some (.int .i64 0) := by simp [go_sem, World.cell?_alloc_past, *]
  have y1_3_5 : (g1.setCell ⟨rb, 0, none⟩ (.slice (some ⟨vb1, 0, none⟩) 1 vc1)).cell? ⟨rb, 5, none⟩ = some (.int .i64 0) := by simp [go_sem, World.cell?_alloc_past, *]
  have y1_3_6 : (g1.setCell ⟨rb, 0, none⟩ (.slice (some ⟨vb1, 0, none⟩) 1 vc1)).cell? ⟨rb, 6, none⟩ = some (.int .i64 0) := by simp [go_sem, World.cell?_alloc_past, *]
  have y1_3_7 : (g1.setCell ⟨rb, 0, none⟩ (.slice (some ⟨vb1, 0, none⟩) 1 vc1)).cell? ⟨rb, 7, none⟩ = some (.int .i64 0) := by simp [go_sem, World.cell?_alloc_past, *]
  have y1f3 : ∀ j, (g1.setCell ⟨rb, 0, none⟩ (.slice (some ⟨vb1, 0, none⟩) 1 vc1)).frozen? ⟨rb, j, none⟩ = false := fun j => by simp [go_sem, *]
  have hBy1 : Below w.heap.size w (g1.setCell ⟨rb, 0, none⟩ (.slice (some ⟨vb1, 0, none⟩) 1 vc1)) := hBg1.setCell (by show w.heap.size ≤ rb; omega) _
  have hzy1 : (g1.setCell ⟨rb, 0, none⟩ (.slice (some ⟨vb1, 0, none⟩) 1 vc1)).heap.size = g1.heap.size := by simp
  clear g1_0_0 g1_0_1 g1_0_2 g1_0_3 g1_0_4 g1_0_5 g1_0_6 g1_0_7 g1f0 g1_1_0 g1_1_1 g1_1_2 g1_1_3 g1_1_4 g1_1_5 g1_2_0 g1_2_1 g1_2_2 g1_2_3 g1_2_4 g1_2_5 g1_2_6 g1_2_7 g1_2_8 g1_2_9 g1_2_10 g1_2_11 g1_2_12 g1_2_13 g1_2_14 g1_2_15 g1_3_0 g1_3_1 g1_3_2 g1_3_3 g1_3_4 g1_3_5 g1_3_6 g1_3_7 g1f3 w1_l0 w1_n0 w1_t00 w1_t01 w1_t02 w1_l1 w1_n1 w1_t10 w1_t11 w1_t12 w1_l2 w1_n2 w1_t20 w1_t21 w1_t22 w1_l3 w1_n3 w1_t30 w1_t31 w1_t32 hBg1
  generalize hW : g1.setCell ⟨rb, 0, none⟩ (.slice (some ⟨vb1, 0, none⟩) 1 vc1) = y1 at *
  clear hW
  have HO1 := HOg1
  clear HOg1
  have u1l0 : w.heap.size < y1.heap.size := by omega
  have u1n0 : y1.heap.size ≠ w.heap.size := by omega
  have u1t00 : w.heap.size < y1.heap.size + 1 := by omega
  have u1t01 : w.heap.size < y1.heap.size + 1 + 1 := by omega
  have u1t02 : w.heap.size < y1.heap.size + 1 + 1 + 1 := by omega
  have u1l1 : v < y1.heap.size := by omega
  have u1n1 : y1.heap.size ≠ v := by omega
  have u1t10 : v < y1.heap.size + 1 := by omega
  have u1t11 : v < y1.heap.size + 1 + 1 := by omega
  have u1t12 : v < y1.heap.size + 1 + 1 + 1 := by omega
  have u1l2 : f < y1.heap.size := by omega
  have u1n2 : y1.heap.size ≠ f := by omega
  have u1t20 : f < y1.heap.size + 1 := by omega
  have u1t21 : f < y1.heap.size + 1 + 1 := by omega
  have u1t22 : f < y1.heap.size + 1 + 1 + 1 := by omega
  have u1l3 : rb < y1.heap.size := by omega
  have u1n3 : y1.heap.size ≠ rb := by omega
  have u1t30 : rb < y1.heap.size + 1 := by omega
  have u1t31 : rb < y1.heap.size + 1 + 1 := by omega
  have u1t32 : rb < y1.heap.size + 1 + 1 + 1 := by omega
  have hzl1 : y0.heap.size ≤ y1.heap.size := by omega
  clear hzy1 hzg1
  rw [rounds_succ]
  go_wp2_with (at_builtin; refine wpList_append_own_at _ rfl _ _ 118 rfl (rb + 1) 131 i0 (.agg #[.string ⟨#[]⟩, .int .i64 0, .int .i64 0, .int .i64 0, .int .i64 0, .int .i64 0]) 6 56 Try.underlying118 HI.out HZ0.out HZ1.out HZ2.out rfl (by decide) _ _ _ rfl (by exact World.ownsRow.alloc (World.ownsRow.alloc HO1.out _) _) ⟨y1.heap.size + 1, 0, none⟩ 1 1 [.string ⟨#[115, 49, 50]⟩, .int .i64 12000, .int .i64 232000, .int .i64 0, .int .i64 0, .int .i64 0] rfl rfl ?c0 ?c1 ?c2 ?c3 ?c4 ?_)
  case c0 =>
    intro j u hj
    match j, hj with
    | 0, hj => simp at hj; subst hj; simp [Addr.add, go_sem]
    | 1, hj => simp at hj; subst hj; simp [Addr.add, go_sem]
    | 2, hj => simp at hj; subst hj; simp [Addr.add, go_sem]
    | 3, hj => simp at hj; subst hj; simp [Addr.add, go_sem]
    | 4, hj => simp at hj; subst hj; simp [Addr.add, go_sem]
    | 5, hj => simp at hj; subst hj; simp [Addr.add, go_sem]
  case c1 => intro u hu; simp at hu; rcases hu with rfl | rfl | rfl | rfl <;> rfl
  case c2 => unfold maxLen; omega
  case c3 => omega
  case c4 => simp; omega
  intro v2 g2 hown2 hgrow2 hnn2 hblk2
  obtain ⟨vb2, vc2, rfl, og2, oh2, oc2, of2⟩ := own_openF (n := 1) hown2
  clear oc2 of2 oh2
  have ob2 := own_blockF HO1.out
  have HW2 := Lib.hid hown2
  have hBr2 := (Below.refl (rb + 1) _).grown hgrow2 (by simp; omega) (fun q hq => by have := ob2 q hq; omega)
  have hBw2 : Below w.heap.size w ((y1.alloc (.cells #[.string ⟨#[115, 49, 50]⟩, .int .i64 12000, .int .i64 232000] 69)).alloc (.cells #[.string ⟨#[115, 49, 50]⟩, .int .i64 12000, .int .i64 232000, .int .i64 0, .int .i64 0, .int .i64 0] 131)) := (hBy1.alloc hBy1.size _).alloc (hBy1.alloc hBy1.size _).size _
  have hBg2 : Below w.heap.size w g2 := hBw2.grown hgrow2 (by simp; omega) (fun q hq => by have := ob2 q hq; omega)
  have hzg2 := hgrow2.size
  try simp at hzg2
  have g2_0_0 : g2.cell? ⟨w.heap.size, 0, none⟩ = some (.slice none 0 0) := by rw [hBr2.cell (p := ⟨w.heap.size, 0, none⟩) (show w.heap.size < rb + 1 by omega)]; simp [go_sem, World.cell?_alloc_past, *]
  have g2_0_1 : g2.cell? ⟨w.heap.size, 1, none⟩ = some (.int .i64 0) := by rw [hBr2.cell (p := ⟨w.heap.size, 1, none⟩) (show w.heap.size < rb + 1 by omega)]; simp [go_sem, World.cell?_alloc_past, *]
  have g2_0_2 : g2.cell? ⟨w.heap.size, 2, none⟩ = some (.int .i64 0) := by rw [hBr2.cell (p := ⟨w.heap.size, 2, none⟩) (show w.heap.size < rb + 1 by omega)]; simp [go_sem, World.cell?_alloc_past, *]
  have g2_0_3 : g2.cell? ⟨w.heap.size, 3, none⟩ = some (.int .i64 0) := by rw [hBr2.cell (p := ⟨w.heap.size, 3, none⟩) (show w.heap.size < rb + 1 by omega)]; simp [go_sem, World.cell?_alloc_past, *]
  have g2_0_4 : g2.cell? ⟨w.heap.size, 4, none⟩ = some (.int .i64 0) := by rw [hBr2.cell (p := ⟨w.heap.size, 4, none⟩) (show w.heap.size < rb + 1 by omega)]; simp [go_sem, World.cell?_alloc_past, *]
  have g2_0_5 : g2.cell? ⟨w.heap.size, 5, none⟩ = some (.int .i64 0) := by rw [hBr2.cell (p := ⟨w.heap.size, 5, none⟩) (show w.heap.size < rb + 1 by omega)]; simp [go_sem, World.cell?_alloc_past, *]
  have g2_0_6 : g2.cell? ⟨w.heap.size, 6, none⟩ = some (.int .i64 0) := by rw [hBr2.cell (p := ⟨w.heap.size, 6, none⟩) (show w.heap.size < rb + 1 by omega)]; simp [go_sem, World.cell?_alloc_past, *]
  have g2_0_7 : g2.cell? ⟨w.heap.size, 7, none⟩ = some (.int .i64 0) := by rw [hBr2.cell (p := ⟨w.heap.size, 7, none⟩) (show w.heap.size < rb + 1 by omega)]; simp [go_sem, World.cell?_alloc_past, *]
  have g2f0 : ∀ j, g2.frozen? ⟨w.heap.size, j, none⟩ = false := fun j => by rw [hBr2.frozen (p := ⟨w.heap.size, j, none⟩) (show w.heap.size < rb + 1 by omega)]; simp [go_sem, *]
  have g2_1_0 : g2.cell? ⟨v, 0, none⟩ = some (.string ⟨#[98, 97, 110, 107]⟩) := by rw [hBr2.cell (p := ⟨v, 0, none⟩) (show v < rb + 1 by omega)]; simp [go_sem, World.cell?_alloc_past, *]
  have g2_1_1 : g2.cell? ⟨v, 1, none⟩ = some (.int .i64 50000) := by rw [hBr2.cell (p := ⟨v, 1, none⟩) (show v < rb + 1 by omega)]; simp [go_sem, World.cell?_alloc_past, *]
  have g2_1_2 : g2.cell? ⟨v, 2, none⟩ = some (.int .i64 300000) := by rw [hBr2.cell (p := ⟨v, 2, none⟩) (show v < rb + 1 by omega)]; simp [go_sem, World.cell?_alloc_past, *]
  have g2_1_3 : g2.cell? ⟨v, 3, none⟩ = some (.string ⟨#[115, 49, 50]⟩) := by rw [hBr2.cell (p := ⟨v, 3, none⟩) (show v < rb + 1 by omega)]; simp [go_sem, World.cell?_alloc_past, *]
  have g2_1_4 : g2.cell? ⟨v, 4, none⟩ = some (.int .i64 12000) := by rw [hBr2.cell (p := ⟨v, 4, none⟩) (show v < rb + 1 by omega)]; simp [go_sem, World.cell?_alloc_past, *]
  have g2_1_5 : g2.cell? ⟨v, 5, none⟩ = some (.int .i64 232000) := by rw [hBr2.cell (p := ⟨v, 5, none⟩) (show v < rb + 1 by omega)]; simp [go_sem, World.cell?_alloc_past, *]
  have g2_2_0 : g2.cell? ⟨f, 0, none⟩ = some (.int .i64 0) := by rw [hBr2.cell (p := ⟨f, 0, none⟩) (show f < rb + 1 by omega)]; simp [go_sem, World.cell?_alloc_past, *]
  have g2_2_1 : g2.cell? ⟨f, 1, none⟩ = some (.int .i64 1) := by rw [hBr2.cell (p := ⟨f, 1, none⟩) (show f < rb + 1 by omega)]; simp [go_sem, World.cell?_alloc_past, *]
  have g2_2_2 : g2.cell? ⟨f, 2, none⟩ = some (.string ⟨#[]⟩) := by rw [hBr2.cell (p := ⟨f, 2, none⟩) (show f < rb + 1 by omega)]; simp [go_sem, World.cell?_alloc_past, *]
  have g2_2_3 : g2.cell? ⟨f, 3, none⟩ = some (.string ⟨#[98, 97, 110, 107]⟩) := by rw [hBr2.cell (p := ⟨f, 3, none⟩) (show f < rb + 1 by omega)]; simp [go_sem, World.cell?_alloc_past, *]
  have g2_2_4 : g2.cell? ⟨f, 4, none⟩ = some (.int .i64 210) := by rw [hBr2.cell (p := ⟨f, 4, none⟩) (show f < rb + 1 by omega)]; simp [go_sem, World.cell?_alloc_past, *]
  have g2_2_5 : g2.cell? ⟨f, 5, none⟩ = some (.int .i64 0) := by rw [hBr2.cell (p := ⟨f, 5, none⟩) (show f < rb + 1 by omega)]; simp [go_sem, World.cell?_alloc_past, *]
  have g2_2_6 : g2.cell? ⟨f, 6, none⟩ = some (.int .i64 10000000) := by rw [hBr2.cell (p := ⟨f, 6, none⟩) (show f < rb + 1 by omega)]; simp [go_sem, World.cell?_alloc_past, *]
  have g2_2_7 : g2.cell? ⟨f, 7, none⟩ = some (.bool false) := by rw [hBr2.cell (p := ⟨f, 7, none⟩) (show f < rb + 1 by omega)]; simp [go_sem, World.cell?_alloc_past, *]
  have g2_2_8 : g2.cell? ⟨f, 8, none⟩ = some (.int .i64 1) := by rw [hBr2.cell (p := ⟨f, 8, none⟩) (show f < rb + 1 by omega)]; simp [go_sem, World.cell?_alloc_past, *]
  have g2_2_9 : g2.cell? ⟨f, 9, none⟩ = some (.int .i64 1) := by rw [hBr2.cell (p := ⟨f, 9, none⟩) (show f < rb + 1 by omega)]; simp [go_sem, World.cell?_alloc_past, *]
  have g2_2_10 : g2.cell? ⟨f, 10, none⟩ = some (.string ⟨#[98, 97, 110, 107]⟩) := by rw [hBr2.cell (p := ⟨f, 10, none⟩) (show f < rb + 1 by omega)]; simp [go_sem, World.cell?_alloc_past, *]
  have g2_2_11 : g2.cell? ⟨f, 11, none⟩ = some (.string ⟨#[115, 49, 50]⟩) := by rw [hBr2.cell (p := ⟨f, 11, none⟩) (show f < rb + 1 by omega)]; simp [go_sem, World.cell?_alloc_past, *]
  have g2_2_12 : g2.cell? ⟨f, 12, none⟩ = some (.int .i64 0) := by rw [hBr2.cell (p := ⟨f, 12, none⟩) (show f < rb + 1 by omega)]; simp [go_sem, World.cell?_alloc_past, *]
  have g2_2_13 : g2.cell? ⟨f, 13, none⟩ = some (.int .i64 0) := by rw [hBr2.cell (p := ⟨f, 13, none⟩) (show f < rb + 1 by omega)]; simp [go_sem, World.cell?_alloc_past, *]
  have g2_2_14 : g2.cell? ⟨f, 14, none⟩ = some (.int .i64 1900000) := by rw [hBr2.cell (p := ⟨f, 14, none⟩) (show f < rb + 1 by omega)]; simp [go_sem, World.cell?_alloc_past, *]
  have g2_2_15 : g2.cell? ⟨f, 15, none⟩ = some (.bool false) := by rw [hBr2.cell (p := ⟨f, 15, none⟩) (show f < rb + 1 by omega)]; simp [go_sem, World.cell?_alloc_past, *]
  have g2_3_0 : g2.cell? ⟨rb, 0, none⟩ = some (.slice (some ⟨vb1, 0, none⟩) 1 vc1) := by rw [hBr2.cell (p := ⟨rb, 0, none⟩) (show rb < rb + 1 by omega)]; simp [go_sem, World.cell?_alloc_past, *]
  have g2_3_1 : g2.cell? ⟨rb, 1, none⟩ = some (.int .i64 0) := by rw [hBr2.cell (p := ⟨rb, 1, none⟩) (show rb < rb + 1 by omega)]; simp [go_sem, World.cell?_alloc_past, *]
  have g2_3_2 : g2.cell? ⟨rb, 2, none⟩ = some (.int .i64 0) := by rw [hBr2.cell (p := ⟨rb, 2, none⟩) (show rb < rb + 1 by omega)]; simp [go_sem, World.cell?_alloc_past, *]
  have g2_3_3 : g2.cell? ⟨rb, 3, none⟩ = some (.int .i64 0) := by rw [hBr2.cell (p := ⟨rb, 3, none⟩) (show rb < rb + 1 by omega)]; simp [go_sem, World.cell?_alloc_past, *]
  have g2_3_4 : g2.cell? ⟨rb, 4, none⟩ = some (.int .i64 0) := by rw [hBr2.cell (p := ⟨rb, 4, none⟩) (show rb < rb + 1 by omega)]; simp [go_sem, World.cell?_alloc_past, *]
  have g2_3_5 : g2.cell? ⟨rb, 5, none⟩ = some (.int .i64 0) := by rw [hBr2.cell (p := ⟨rb, 5, none⟩) (show rb < rb + 1 by omega)]; simp [go_sem, World.cell?_alloc_past, *]
  have g2_3_6 : g2.cell? ⟨rb, 6, none⟩ = some (.int .i64 0) := by rw [hBr2.cell (p := ⟨rb, 6, none⟩) (show rb < rb + 1 by omega)]; simp [go_sem, World.cell?_alloc_past, *]
  have g2_3_7 : g2.cell? ⟨rb, 7, none⟩ = some (.int .i64 0) := by rw [hBr2.cell (p := ⟨rb, 7, none⟩) (show rb < rb + 1 by omega)]; simp [go_sem, World.cell?_alloc_past, *]
  have g2f3 : ∀ j, g2.frozen? ⟨rb, j, none⟩ = false := fun j => by rw [hBr2.frozen (p := ⟨rb, j, none⟩) (show rb < rb + 1 by omega)]; simp [go_sem, *]
  have HOg2 : Hid ((g2.setCell ⟨rb, 0, none⟩ (.slice (some ⟨vb2, 0, none⟩) 2 vc2)).ownsRow (rb + 1) 131 6 (.slice (some ⟨vb2, 0, none⟩) 2 vc2) 2 [.string ⟨#[98, 97, 110, 107]⟩, .int .i64 50000, .int .i64 300000, .int .i64 0, .int .i64 0, .int .i64 0, .string ⟨#[115, 49, 50]⟩, .int .i64 12000, .int .i64 232000, .int .i64 0, .int .i64 0, .int .i64 0]) := Lib.hid (ownsRowF_setCell_below HW2.out (by show rb < rb + 1; omega) _)
  clear hown2 hgrow2 hnn2 hblk2 hBr2 hBw2 ob2 HW2 HO1 y1_0_0 y1_0_1 y1_0_2 y1_0_3 y1_0_4 y1_0_5 y1_0_6 y1_0_7 y1f0 y1_1_0 y1_1_1 y1_1_2 y1_1_3 y1_1_4 y1_1_5 y1_2_0 y1_2_1 y1_2_2 y1_2_3 y1_2_4 y1_2_5 y1_2_6 y1_2_7 y1_2_8 y1_2_9 y1_2_10 y1_2_11 y1_2_12 y1_2_13 y1_2_14 y1_2_15 y1_3_0 y1_3_1 y1_3_2 y1_3_3 y1_3_4 y1_3_5 y1_3_6 y1_3_7 y1f3 u1l0 u1n0 u1t00 u1t01 u1t02 u1l1 u1n1 u1t10 u1t11 u1t12 u1l2 u1n2 u1t20 u1t21 u1t22 u1l3 u1n3 u1t30 u1t31 u1t32 hBy1
  have w2_l0 : w.heap.size < g2.heap.size := by omega
  have w2_n0 : g2.heap.size ≠ w.heap.size := by omega
  have w2_t00 : w.heap.size < g2.heap.size + 1 := by omega
  have w2_t01 : w.heap.size < g2.heap.size + 1 + 1 := by omega
  have w2_t02 : w.heap.size < g2.heap.size + 1 + 1 + 1 := by omega
  have w2_l1 : v < g2.heap.size := by omega
  have w2_n1 : g2.heap.size ≠ v := by omega
  have w2_t10 : v < g2.heap.size + 1 := by omega
  have w2_t11 : v < g2.heap.size + 1 + 1 := by omega
  have w2_t12 : v < g2.heap.size + 1 + 1 + 1 := by omega
  have w2_l2 : f < g2.heap.size := by omega
  have w2_n2 : g2.heap.size ≠ f := by omega
  have w2_t20 : f < g2.heap.size + 1 := by omega
  have w2_t21 : f < g2.heap.size + 1 + 1 := by omega
  have w2_t22 : f < g2.heap.size + 1 + 1 + 1 := by omega
  have w2_l3 : rb < g2.heap.size := by omega
  have w2_n3 : g2.heap.size ≠ rb := by omega
  have w2_t30 : rb < g2.heap.size + 1 := by omega
  have w2_t31 : rb < g2.heap.size + 1 + 1 := by omega
  have w2_t32 : rb < g2.heap.size + 1 + 1 + 1 := by omega
  go_wp2_with fail
  have y2_0_0 : (g2.setCell ⟨rb, 0, none⟩ (.slice (some ⟨vb2, 0, none⟩) 2 vc2)).cell? ⟨w.heap.size, 0, none⟩ = some (.slice none 0 0) := by simp [go_sem, World.cell?_alloc_past, *]
  have y2_0_1 : (g2.setCell ⟨rb, 0, none⟩ (.slice (some ⟨vb2, 0, none⟩) 2 vc2)).cell? ⟨w.heap.size, 1, none⟩ = some (.int .i64 0) := by simp [go_sem, World.cell?_alloc_past, *]
  have y2_0_2 : (g2.setCell ⟨rb, 0, none⟩ (.slice (some ⟨vb2, 0, none⟩) 2 vc2)).cell? ⟨w.heap.size, 2, none⟩ = some (.int .i64 0) := by simp [go_sem, World.cell?_alloc_past, *]
  have y2_0_3 : (g2.setCell ⟨rb, 0, none⟩ (.slice (some ⟨vb2, 0, none⟩) 2 vc2)).cell? ⟨w.heap.size, 3, none⟩ = some (.int .i64 0) := by simp [go_sem, World.cell?_alloc_past, *]
  have y2_0_4 : (g2.setCell ⟨rb, 0, none⟩ (.slice (some ⟨vb2, 0, none⟩) 2 vc2)).cell? ⟨w.heap.size, 4, none⟩ = some (.int .i64 0) := by simp [go_sem, World.cell?_alloc_past, *]
  have y2_0_5 : (g2.setCell ⟨rb, 0, none⟩ (.slice (some ⟨vb2, 0, none⟩) 2 vc2)).cell? ⟨w.heap.size, 5, none⟩ = some (.int .i64 0) := by simp [go_sem, World.cell?_alloc_past, *]
  have y2_0_6 : (g2.setCell ⟨rb, 0, none⟩ (.slice (some ⟨vb2, 0, none⟩) 2 vc2)).cell? ⟨w.heap.size, 6, none⟩ = some (.int .i64 0) := by simp [go_sem, World.cell?_alloc_past, *]
  have y2_0_7 : (g2.setCell ⟨rb, 0, none⟩ (.slice (some ⟨vb2, 0, none⟩) 2 vc2)).cell? ⟨w.heap.size, 7, none⟩ = some (.int .i64 0) := by simp [go_sem, World.cell?_alloc_past, *]
  have y2f0 : ∀ j, (g2.setCell ⟨rb, 0, none⟩ (.slice (some ⟨vb2, 0, none⟩) 2 vc2)).frozen? ⟨w.heap.size, j, none⟩ = false := fun j => by simp [go_sem, *]
  have y2_1_0 : (g2.setCell ⟨rb, 0, none⟩ (.slice (some ⟨vb2, 0, none⟩) 2 vc2)).cell? ⟨v, 0, none⟩ = some (.string ⟨#[98, 97, 110, 107]⟩) := by simp [go_sem, World.cell?_alloc_past, *]
  have y2_1_1 : (g2.setCell ⟨rb, 0, none⟩ (.slice (some ⟨vb2, 0, none⟩) 2 vc2)).cell? ⟨v, 1, none⟩ = some (.int .i64 50000) := by simp [go_sem, World.cell?_alloc_past, *]
  have y2_1_2 : (g2.setCell ⟨rb, 0, none⟩ (.slice (some ⟨vb2, 0, none⟩) 2 vc2)).cell? ⟨v, 2, none⟩ = some (.int .i64 300000) := by simp [go_sem, World.cell?_alloc_past, *]
  have y2_1_3 : (g2.setCell ⟨rb, 0, none⟩ (.slice (some ⟨vb2, 0, none⟩) 2 vc2)).cell? ⟨v, 3, none⟩ = some (.string ⟨#[115, 49, 50]⟩) := by simp [go_sem, World.cell?_alloc_past, *]
  have y2_1_4 : (g2.setCell ⟨rb, 0, none⟩ (.slice (some ⟨vb2, 0, none⟩) 2 vc2)).cell? ⟨v, 4, none⟩ = some (.int .i64 12000) := by simp [go_sem, World.cell?_alloc_past, *]
  have y2_1_5 : (g2.setCell ⟨rb, 0, none⟩ (.slice (some ⟨vb2, 0, none⟩) 2 vc2)).cell? ⟨v, 5, none⟩ = some (.int .i64 232000) := by simp [go_sem, World.cell?_alloc_past, *]
  have y2_2_0 : (g2.setCell ⟨rb, 0, none⟩ (.slice (some ⟨vb2, 0, none⟩) 2 vc2)).cell? ⟨f, 0, none⟩ = some (.int .i64 0) := by simp [go_sem, World.cell?_alloc_past, *]
  have y2_2_1 : (g2.setCell ⟨rb, 0, none⟩ (.slice (some ⟨vb2, 0, none⟩) 2 vc2)).cell? ⟨f, 1, none⟩ = some (.int .i64 1) := by simp [go_sem, World.cell?_alloc_past, *]
  have y2_2_2 : (g2.setCell ⟨rb, 0, none⟩ (.slice (some ⟨vb2, 0, none⟩) 2 vc2)).cell? ⟨f, 2, none⟩ = some (.string ⟨#[]⟩) := by simp [go_sem, World.cell?_alloc_past, *]
  have y2_2_3 : (g2.setCell ⟨rb, 0, none⟩ (.slice (some ⟨vb2, 0, none⟩) 2 vc2)).cell? ⟨f, 3, none⟩ = some (.string ⟨#[98, 97, 110, 107]⟩) := by simp [go_sem, World.cell?_alloc_past, *]
  have y2_2_4 : (g2.setCell ⟨rb, 0, none⟩ (.slice (some ⟨vb2, 0, none⟩) 2 vc2)).cell? ⟨f, 4, none⟩ = some (.int .i64 210) := by simp [go_sem, World.cell?_alloc_past, *]
  have y2_2_5 : (g2.setCell ⟨rb, 0, none⟩ (.slice (some ⟨vb2, 0, none⟩) 2 vc2)).cell? ⟨f, 5, none⟩ = some (.int .i64 0) := by simp [go_sem, World.cell?_alloc_past, *]
  have y2_2_6 : (g2.setCell ⟨rb, 0, none⟩ (.slice (some ⟨vb2, 0, none⟩) 2 vc2)).cell? ⟨f, 6, none⟩ = some (.int .i64 10000000) := by simp [go_sem, World.cell?_alloc_past, *]
  have y2_2_7 : (g2.setCell ⟨rb, 0, none⟩ (.slice (some ⟨vb2, 0, none⟩) 2 vc2)).cell? ⟨f, 7, none⟩ = some (.bool false) := by simp [go_sem, World.cell?_alloc_past, *]
  have y2_2_8 : (g2.setCell ⟨rb, 0, none⟩ (.slice (some ⟨vb2, 0, none⟩) 2 vc2)).cell? ⟨f, 8, none⟩ = some (.int .i64 1) := by simp [go_sem, World.cell?_alloc_past, *]
  have y2_2_9 : (g2.setCell ⟨rb, 0, none⟩ (.slice (some ⟨vb2, 0, none⟩) 2 vc2)).cell? ⟨f, 9, none⟩ = some (.int .i64 1) := by simp [go_sem, World.cell?_alloc_past, *]
  have y2_2_10 : (g2.setCell ⟨rb, 0, none⟩ (.slice (some ⟨vb2, 0, none⟩) 2 vc2)).cell? ⟨f, 10, none⟩ = some (.string ⟨#[98, 97, 110, 107]⟩) := by simp [go_sem, World.cell?_alloc_past, *]
  have y2_2_11 : (g2.setCell ⟨rb, 0, none⟩ (.slice (some ⟨vb2, 0, none⟩) 2 vc2)).cell? ⟨f, 11, none⟩ = some (.string ⟨#[115, 49, 50]⟩) := by simp [go_sem, World.cell?_alloc_past, *]
  have y2_2_12 : (g2.setCell ⟨rb, 0, none⟩ (.slice (some ⟨vb2, 0, none⟩) 2 vc2)).cell? ⟨f, 12, none⟩ = some (.int .i64 0) := by simp [go_sem, World.cell?_alloc_past, *]
  have y2_2_13 : (g2.setCell ⟨rb, 0, none⟩ (.slice (some ⟨vb2, 0, none⟩) 2 vc2)).cell? ⟨f, 13, none⟩ = some (.int .i64 0) := by simp [go_sem, World.cell?_alloc_past, *]
  have y2_2_14 : (g2.setCell ⟨rb, 0, none⟩ (.slice (some ⟨vb2, 0, none⟩) 2 vc2)).cell? ⟨f, 14, none⟩ = some (.int .i64 1900000) := by simp [go_sem, World.cell?_alloc_past, *]
  have y2_2_15 : (g2.setCell ⟨rb, 0, none⟩ (.slice (some ⟨vb2, 0, none⟩) 2 vc2)).cell? ⟨f, 15, none⟩ = some (.bool false) := by simp [go_sem, World.cell?_alloc_past, *]
  have y2_3_0 : (g2.setCell ⟨rb, 0, none⟩ (.slice (some ⟨vb2, 0, none⟩) 2 vc2)).cell? ⟨rb, 0, none⟩ = some (.slice (some ⟨vb2, 0, none⟩) 2 vc2) := by simp [go_sem, World.cell?_alloc_past, *]
  have y2_3_1 : (g2.setCell ⟨rb, 0, none⟩ (.slice (some ⟨vb2, 0, none⟩) 2 vc2)).cell? ⟨rb, 1, none⟩ = some (.int .i64 0) := by simp [go_sem, World.cell?_alloc_past, *]
  have y2_3_2 : (g2.setCell ⟨rb, 0, none⟩ (.slice (some ⟨vb2, 0, none⟩) 2 vc2)).cell? ⟨rb, 2, none⟩ = some (.int .i64 0) := by simp [go_sem, World.cell?_alloc_past, *]
  have y2_3_3 : (g2.setCell ⟨rb, 0, none⟩ (.slice (some ⟨vb2, 0, none⟩) 2 vc2)).cell? ⟨rb, 3, none⟩ = some (.int .i64 0) := by simp [go_sem, World.cell?_alloc_past, *]
  have y2_3_4 : (g2.setCell ⟨rb, 0, none⟩ (.slice (some ⟨vb2, 0, none⟩) 2 vc2)).cell? ⟨rb, 4, none⟩ = some (.int .i64 0) := by simp [go_sem, World.cell?_alloc_past, *]
  have y2_3_5 : (g2.setCell ⟨rb, 0, none⟩ (.slice (some ⟨vb2, 0, none⟩) 2 vc2)).cell? ⟨rb, 5, none⟩ = some (.int .i64 0) := by simp [go_sem, World.cell?_alloc_past, *]
  have y2_3_6 : (g2.setCell ⟨rb, 0, none⟩ (.slice (some ⟨vb2, 0, none⟩) 2 vc2)).cell? ⟨rb, 6, none⟩ = some (.int .i64 0) := by simp [go_sem, World.cell?_alloc_past, *]
  have y2_3_7 : (g2.setCell ⟨rb, 0, none⟩ (.slice (some ⟨vb2, 0, none⟩) 2 vc2)).cell? ⟨rb, 7, none⟩ = some (.int .i64 0) := by simp [go_sem, World.cell?_alloc_past, *]
  have y2f3 : ∀ j, (g2.setCell ⟨rb, 0, none⟩ (.slice (some ⟨vb2, 0, none⟩) 2 vc2)).frozen? ⟨rb, j, none⟩ = false := fun j => by simp [go_sem, *]
  have hBy2 : Below w.heap.size w (g2.setCell ⟨rb, 0, none⟩ (.slice (some ⟨vb2, 0, none⟩) 2 vc2)) := hBg2.setCell (by show w.heap.size ≤ rb; omega) _
  have hzy2 : (g2.setCell ⟨rb, 0, none⟩ (.slice (some ⟨vb2, 0, none⟩) 2 vc2)).heap.size = g2.heap.size := by simp
  clear g2_0_0 g2_0_1 g2_0_2 g2_0_3 g2_0_4 g2_0_5 g2_0_6 g2_0_7 g2f0 g2_1_0 g2_1_1 g2_1_2 g2_1_3 g2_1_4 g2_1_5 g2_2_0 g2_2_1 g2_2_2 g2_2_3 g2_2_4 g2_2_5 g2_2_6 g2_2_7 g2_2_8 g2_2_9 g2_2_10 g2_2_11 g2_2_12 g2_2_13 g2_2_14 g2_2_15 g2_3_0 g2_3_1 g2_3_2 g2_3_3 g2_3_4 g2_3_5 g2_3_6 g2_3_7 g2f3 w2_l0 w2_n0 w2_t00 w2_t01 w2_t02 w2_l1 w2_n1 w2_t10 w2_t11 w2_t12 w2_l2 w2_n2 w2_t20 w2_t21 w2_t22 w2_l3 w2_n3 w2_t30 w2_t31 w2_t32 hBg2
  generalize hW : g2.setCell ⟨rb, 0, none⟩ (.slice (some ⟨vb2, 0, none⟩) 2 vc2) = y2 at *
  clear hW
  have HO2 := HOg2
  clear HOg2
  have u2l0 : w.heap.size < y2.heap.size := by omega
  have u2n0 : y2.heap.size ≠ w.heap.size := by omega
  have u2t00 : w.heap.size < y2.heap.size + 1 := by omega
  have u2t01 : w.heap.size < y2.heap.size + 1 + 1 := by omega
  have u2t02 : w.heap.size < y2.heap.size + 1 + 1 + 1 := by omega
  have u2l1 : v < y2.heap.size := by omega
  have u2n1 : y2.heap.size ≠ v := by omega
  have u2t10 : v < y2.heap.size + 1 := by omega
  have u2t11 : v < y2.heap.size + 1 + 1 := by omega
  have u2t12 : v < y2.heap.size + 1 + 1 + 1 := by omega
  have u2l2 : f < y2.heap.size := by omega
  have u2n2 : y2.heap.size ≠ f := by omega
  have u2t20 : f < y2.heap.size + 1 := by omega
  have u2t21 : f < y2.heap.size + 1 + 1 := by omega
  have u2t22 : f < y2.heap.size + 1 + 1 + 1 := by omega
  have u2l3 : rb < y2.heap.size := by omega
  have u2n3 : y2.heap.size ≠ rb := by omega
  have u2t30 : rb < y2.heap.size + 1 := by omega
  have u2t31 : rb < y2.heap.size + 1 + 1 := by omega
  have u2t32 : rb < y2.heap.size + 1 + 1 + 1 := by omega
  have hzl2 : y1.heap.size ≤ y2.heap.size := by omega
  clear hzy2 hzg2
  obtain ⟨vb, vcap, hvb, gl, gh, gc, gf⟩ := own_openF (n := 1) HO2.out
  obtain ⟨rfl, rfl⟩ : vb = vb2 ∧ vcap = vc2 := by have hh := hvb; simp at hh; exact ⟨hh.1.symm, hh.2.symm⟩
  clear hvb
  have e0 := gc 0 _ rfl
  have e1 := gc 1 _ rfl
  have e2 := gc 2 _ rfl
  have e3 := gc 3 _ rfl
  have e4 := gc 4 _ rfl
  have e5 := gc 5 _ rfl
  have e6 := gc 6 _ rfl
  have e7 := gc 7 _ rfl
  have e8 := gc 8 _ rfl
  have e9 := gc 9 _ rfl
  have e10 := gc 10 _ rfl
  have e11 := gc 11 _ rfl
  clear gc HO2
  have d11 : vb ≠ rb := by omega
  have d12 : rb ≠ vb := by omega
  have d13 : vb ≠ w.heap.size := by omega
  have d14 : w.heap.size ≠ vb := by omega
  have d15 : v ≠ vb := by omega
  have d16 : f ≠ vb := by omega
  have gn : y2.heap.size ≠ vb := by omega
  have gt1 : vb < y2.heap.size + 1 := by omega
  have gt2 : vb < y2.heap.size + 1 + 1 := by omega
  rw [rounds_succ]
  go_wp2
  refine wp_loop_rounds 3 ?_
  rw [rounds_succ]
  go_wp2_with fail
  have hba1 : Below y2.heap.size y2 (y2.alloc (.cells #[.int .i64 0, .int .i64 1, .string ⟨#[]⟩, .string ⟨#[98, 97, 110, 107]⟩, .int .i64 210, .int .i64 0, .int .i64 10000000, .bool false] 38)) := (Below.refl _ _).alloc (Nat.le_refl _) _
  refine (add_1 rb vb vcap _ (by simp [go_sem, World.cell?_alloc_past, *]) (by simp [go_sem, World.cell?_alloc_past, *]) (by simp [go_sem, World.cell?_alloc_past, *]) (by simp [go_sem, World.cell?_alloc_past, *]) (by simp [go_sem, World.cell?_alloc_past, *]) (by simp [go_sem, World.cell?_alloc_past, *]) (by simp [go_sem, World.cell?_alloc_past, *]) (by simp [go_sem, World.cell?_alloc_past, *]) (by simp [go_sem, World.cell?_alloc_past, *]) (by simp [go_sem, World.cell?_alloc_past, *]) (by simp [go_sem, World.cell?_alloc_past, *]) (by simp [go_sem, World.cell?_alloc_past, *]) (by simp [go_sem, World.cell?_alloc_past, *]) (by simp [go_sem, World.cell?_alloc_past, *]) (by simp [go_sem, World.cell?_alloc_past, *]) (by simp [go_sem, World.cell?_alloc_past, *]) (by simp [go_sem, World.cell?_alloc_past, *]) (by simp [go_sem, World.cell?_alloc_past, *]) (by simp [go_sem, World.cell?_alloc_past, *]) (by simp [go_sem, World.cell?_alloc_past, *]) (fun j => by simp [go_sem, *]) (fun j => by simp [go_sem, *]) (by simp; omega) (by simp; omega) d12).mono ?_
  rintro en z1 ⟨rfl, ⟨m1_0, m1_1, m1_2, m1_3, m1_4, m1_5, m1_6, m1_7, m1_8, m1_9, m1_10, m1_11, m1_12, m1_13, m1_14, m1_15, m1_16, m1_17, m1_18, m1_19, m1f, m1r⟩, hD1⟩
  have zz1 := hD1.size
  try simp at zz1
  have q1_0_0 : z1.cell? ⟨w.heap.size, 0, none⟩ = some (.slice none 0 0) := by rw [hD1.cell (by simp; omega) (by omega) (by omega)]; simp [go_sem, World.cell?_alloc_past, *]
  have q1_0_1 : z1.cell? ⟨w.heap.size, 1, none⟩ = some (.int .i64 0) := by rw [hD1.cell (by simp; omega) (by omega) (by omega)]; simp [go_sem, World.cell?_alloc_past, *]
  have q1_0_2 : z1.cell? ⟨w.heap.size, 2, none⟩ = some (.int .i64 0) := by rw [hD1.cell (by simp; omega) (by omega) (by omega)]; simp [go_sem, World.cell?_alloc_past, *]
  have q1_0_3 : z1.cell? ⟨w.heap.size, 3, none⟩ = some (.int .i64 0) := by rw [hD1.cell (by simp; omega) (by omega) (by omega)]; simp [go_sem, World.cell?_alloc_past, *]
  have q1_0_4 : z1.cell? ⟨w.heap.size, 4, none⟩ = some (.int .i64 0) := by rw [hD1.cell (by simp; omega) (by omega) (by omega)]; simp [go_sem, World.cell?_alloc_past, *]
  have q1_0_5 : z1.cell? ⟨w.heap.size, 5, none⟩ = some (.int .i64 0) := by rw [hD1.cell (by simp; omega) (by omega) (by omega)]; simp [go_sem, World.cell?_alloc_past, *]
  have q1_0_6 : z1.cell? ⟨w.heap.size, 6, none⟩ = some (.int .i64 0) := by rw [hD1.cell (by simp; omega) (by omega) (by omega)]; simp [go_sem, World.cell?_alloc_past, *]
  have q1_0_7 : z1.cell? ⟨w.heap.size, 7, none⟩ = some (.int .i64 0) := by rw [hD1.cell (by simp; omega) (by omega) (by omega)]; simp [go_sem, World.cell?_alloc_past, *]
  have q1f0 : ∀ j, z1.frozen? ⟨w.heap.size, j, none⟩ = false := fun j => by rw [hD1.frozen (by simp; omega) (by omega) (by omega)]; simp [go_sem, *]
  have q1_1_0 : z1.cell? ⟨v, 0, none⟩ = some (.string ⟨#[98, 97, 110, 107]⟩) := by rw [hD1.cell (by simp; omega) (by omega) (by omega)]; simp [go_sem, World.cell?_alloc_past, *]
  have q1_1_1 : z1.cell? ⟨v, 1, none⟩ = some (.int .i64 50000) := by rw [hD1.cell (by simp; omega) (by omega) (by omega)]; simp [go_sem, World.cell?_alloc_past, *]
  have q1_1_2 : z1.cell? ⟨v, 2, none⟩ = some (.int .i64 300000) := by rw [hD1.cell (by simp; omega) (by omega) (by omega)]; simp [go_sem, World.cell?_alloc_past, *]
  have q1_1_3 : z1.cell? ⟨v, 3, none⟩ = some (.string ⟨#[115, 49, 50]⟩) := by rw [hD1.cell (by simp; omega) (by omega) (by omega)]; simp [go_sem, World.cell?_alloc_past, *]
  have q1_1_4 : z1.cell? ⟨v, 4, none⟩ = some (.int .i64 12000) := by rw [hD1.cell (by simp; omega) (by omega) (by omega)]; simp [go_sem, World.cell?_alloc_past, *]
  have q1_1_5 : z1.cell? ⟨v, 5, none⟩ = some (.int .i64 232000) := by rw [hD1.cell (by simp; omega) (by omega) (by omega)]; simp [go_sem, World.cell?_alloc_past, *]
  have q1_2_0 : z1.cell? ⟨f, 0, none⟩ = some (.int .i64 0) := by rw [hD1.cell (by simp; omega) (by omega) (by omega)]; simp [go_sem, World.cell?_alloc_past, *]
  have q1_2_1 : z1.cell? ⟨f, 1, none⟩ = some (.int .i64 1) := by rw [hD1.cell (by simp; omega) (by omega) (by omega)]; simp [go_sem, World.cell?_alloc_past, *]
  have q1_2_2 : z1.cell? ⟨f, 2, none⟩ = some (.string ⟨#[]⟩) := by rw [hD1.cell (by simp; omega) (by omega) (by omega)]; simp [go_sem, World.cell?_alloc_past, *]
  have q1_2_3 : z1.cell? ⟨f, 3, none⟩ = some (.string ⟨#[98, 97, 110, 107]⟩) := by rw [hD1.cell (by simp; omega) (by omega) (by omega)]; simp [go_sem, World.cell?_alloc_past, *]
  have q1_2_4 : z1.cell? ⟨f, 4, none⟩ = some (.int .i64 210) := by rw [hD1.cell (by simp; omega) (by omega) (by omega)]; simp [go_sem, World.cell?_alloc_past, *]
  have q1_2_5 : z1.cell? ⟨f, 5, none⟩ = some (.int .i64 0) := by rw [hD1.cell (by simp; omega) (by omega) (by omega)]; simp [go_sem, World.cell?_alloc_past, *]
  have q1_2_6 : z1.cell? ⟨f, 6, none⟩ = some (.int .i64 10000000) := by rw [hD1.cell (by simp; omega) (by omega) (by omega)]; simp [go_sem, World.cell?_alloc_past, *]
  have q1_2_7 : z1.cell? ⟨f, 7, none⟩ = some (.bool false) := by rw [hD1.cell (by simp; omega) (by omega) (by omega)]; simp [go_sem, World.cell?_alloc_past, *]
  have q1_2_8 : z1.cell? ⟨f, 8, none⟩ = some (.int .i64 1) := by rw [hD1.cell (by simp; omega) (by omega) (by omega)]; simp [go_sem, World.cell?_alloc_past, *]
  have q1_2_9 : z1.cell? ⟨f, 9, none⟩ = some (.int .i64 1) := by rw [hD1.cell (by simp; omega) (by omega) (by omega)]; simp [go_sem, World.cell?_alloc_past, *]
  have q1_2_10 : z1.cell? ⟨f, 10, none⟩ = some (.string ⟨#[98, 97, 110, 107]⟩) := by rw [hD1.cell (by simp; omega) (by omega) (by omega)]; simp [go_sem, World.cell?_alloc_past, *]
  have q1_2_11 : z1.cell? ⟨f, 11, none⟩ = some (.string ⟨#[115, 49, 50]⟩) := by rw [hD1.cell (by simp; omega) (by omega) (by omega)]; simp [go_sem, World.cell?_alloc_past, *]
  have q1_2_12 : z1.cell? ⟨f, 12, none⟩ = some (.int .i64 0) := by rw [hD1.cell (by simp; omega) (by omega) (by omega)]; simp [go_sem, World.cell?_alloc_past, *]
  have q1_2_13 : z1.cell? ⟨f, 13, none⟩ = some (.int .i64 0) := by rw [hD1.cell (by simp; omega) (by omega) (by omega)]; simp [go_sem, World.cell?_alloc_past, *]
  have q1_2_14 : z1.cell? ⟨f, 14, none⟩ = some (.int .i64 1900000) := by rw [hD1.cell (by simp; omega) (by omega) (by omega)]; simp [go_sem, World.cell?_alloc_past, *]
  have q1_2_15 : z1.cell? ⟨f, 15, none⟩ = some (.bool false) := by rw [hD1.cell (by simp; omega) (by omega) (by omega)]; simp [go_sem, World.cell?_alloc_past, *]
  have hBz1 : Below w.heap.size w z1 := by
    have hh := hBy2.alloc hBy2.size (.cells #[.int .i64 0, .int .i64 1, .string ⟨#[]⟩, .string ⟨#[98, 97, 110, 107]⟩, .int .i64 210, .int .i64 0, .int .i64 10000000, .bool false] 38)
    exact ⟨hD1.os.trans hh.os, hD1.tape.trans hh.tape, hD1.output.trans hh.output, Nat.le_trans hh.size hD1.size, fun q hq => (hD1.block q (Nat.lt_of_lt_of_le hq hh.size) (by omega) (by omega)).trans (hh.block q hq)⟩
  have s1l0 : w.heap.size < z1.heap.size := by omega
  have s1n0 : z1.heap.size ≠ w.heap.size := by omega
  have s1t00 : w.heap.size < z1.heap.size + 1 := by omega
  have s1t01 : w.heap.size < z1.heap.size + 1 + 1 := by omega
  have s1t02 : w.heap.size < z1.heap.size + 1 + 1 + 1 := by omega
  have s1l1 : v < z1.heap.size := by omega
  have s1n1 : z1.heap.size ≠ v := by omega
  have s1t10 : v < z1.heap.size + 1 := by omega
  have s1t11 : v < z1.heap.size + 1 + 1 := by omega
  have s1t12 : v < z1.heap.size + 1 + 1 + 1 := by omega
  have s1l2 : f < z1.heap.size := by omega
  have s1n2 : z1.heap.size ≠ f := by omega
  have s1t20 : f < z1.heap.size + 1 := by omega
  have s1t21 : f < z1.heap.size + 1 + 1 := by omega
  have s1t22 : f < z1.heap.size + 1 + 1 + 1 := by omega
  have s1l3 : rb < z1.heap.size := by omega
  have s1n3 : z1.heap.size ≠ rb := by omega
  have s1t30 : rb < z1.heap.size + 1 := by omega
  have s1t31 : rb < z1.heap.size + 1 + 1 := by omega
  have s1t32 : rb < z1.heap.size + 1 + 1 + 1 := by omega
  have s1l4 : vb < z1.heap.size := by omega
  have s1n4 : z1.heap.size ≠ vb := by omega
  have s1t40 : vb < z1.heap.size + 1 := by omega
  have s1t41 : vb < z1.heap.size + 1 + 1 := by omega
  have s1t42 : vb < z1.heap.size + 1 + 1 + 1 := by omega
  clear hD1 hba1 zz1 y2_0_0 y2_0_1 y2_0_2 y2_0_3 y2_0_4 y2_0_5 y2_0_6 y2_0_7 y2f0 y2_1_0 y2_1_1 y2_1_2 y2_1_3 y2_1_4 y2_1_5 y2_2_0 y2_2_1 y2_2_2 y2_2_3 y2_2_4 y2_2_5 y2_2_6 y2_2_7 y2_2_8 y2_2_9 y2_2_10 y2_2_11 y2_2_12 y2_2_13 y2_2_14 y2_2_15 y2_3_0 y2_3_1 y2_3_2 y2_3_3 y2_3_4 y2_3_5 y2_3_6 y2_3_7 y2f3 u2l0 u2n0 u2t00 u2t01 u2t02 u2l1 u2n1 u2t10 u2t11 u2t12 u2l2 u2n2 u2t20 u2t21 u2t22 u2l3 u2n3 u2t30 u2t31 u2t32 e0 e1 e2 e3 e4 e5 e6 e7 e8 e9 e10 e11 gf gn gt1 gt2 hBy2
  go_wp2_with fail
  rw [rounds_succ]
  go_wp2_with fail
  have hba2 : Below z1.heap.size z1 (z1.alloc (.cells #[.int .i64 1, .int .i64 1, .string ⟨#[98, 97, 110, 107]⟩, .string ⟨#[115, 49, 50]⟩, .int .i64 0, .int .i64 0, .int .i64 1900000, .bool false] 38)) := (Below.refl _ _).alloc (Nat.le_refl _) _
  refine (add_2 rb vb vcap _ (by simp [go_sem, World.cell?_alloc_past, *]) (by simp [go_sem, World.cell?_alloc_past, *]) (by simp [go_sem, World.cell?_alloc_past, *]) (by simp [go_sem, World.cell?_alloc_past, *]) (by simp [go_sem, World.cell?_alloc_past, *]) (by simp [go_sem, World.cell?_alloc_past, *]) (by simp [go_sem, World.cell?_alloc_past, *]) (by simp [go_sem, World.cell?_alloc_past, *]) (by simp [go_sem, World.cell?_alloc_past, *]) (by simp [go_sem, World.cell?_alloc_past, *]) (by simp [go_sem, World.cell?_alloc_past, *]) (by simp [go_sem, World.cell?_alloc_past, *]) (by simp [go_sem, World.cell?_alloc_past, *]) (by simp [go_sem, World.cell?_alloc_past, *]) (by simp [go_sem, World.cell?_alloc_past, *]) (by simp [go_sem, World.cell?_alloc_past, *]) (by simp [go_sem, World.cell?_alloc_past, *]) (by simp [go_sem, World.cell?_alloc_past, *]) (by simp [go_sem, World.cell?_alloc_past, *]) (by simp [go_sem, World.cell?_alloc_past, *]) (fun j => by simp [go_sem, *]) (fun j => by simp [go_sem, *]) (by simp; omega) (by simp; omega) d12).mono ?_
  rintro en z2 ⟨rfl, ⟨m2_0, m2_1, m2_2, m2_3, m2_4, m2_5, m2_6, m2_7, m2_8, m2_9, m2_10, m2_11, m2_12, m2_13, m2_14, m2_15, m2_16, m2_17, m2_18, m2_19, m2f, m2r⟩, hD2⟩
  have zz2 := hD2.size
  try simp at zz2
  have q2_0_0 : z2.cell? ⟨w.heap.size, 0, none⟩ = some (.slice none 0 0) := by rw [hD2.cell (by simp; omega) (by omega) (by omega)]; simp [go_sem, World.cell?_alloc_past, *]
  have q2_0_1 : z2.cell? ⟨w.heap.size, 1, none⟩ = some (.int .i64 0) := by rw [hD2.cell (by simp; omega) (by omega) (by omega)]; simp [go_sem, World.cell?_alloc_past, *]
  have q2_0_2 : z2.cell? ⟨w.heap.size, 2, none⟩ = some (.int .i64 0) := by rw [hD2.cell (by simp; omega) (by omega) (by omega)]; simp [go_sem, World.cell?_alloc_past, *]
  have q2_0_3 : z2.cell? ⟨w.heap.size, 3, none⟩ = some (.int .i64 0) := by rw [hD2.cell (by simp; omega) (by omega) (by omega)]; simp [go_sem, World.cell?_alloc_past, *]
  have q2_0_4 : z2.cell? ⟨w.heap.size, 4, none⟩ = some (.int .i64 0) := by rw [hD2.cell (by simp; omega) (by omega) (by omega)]; simp [go_sem, World.cell?_alloc_past, *]
  have q2_0_5 : z2.cell? ⟨w.heap.size, 5, none⟩ = some (.int .i64 0) := by rw [hD2.cell (by simp; omega) (by omega) (by omega)]; simp [go_sem, World.cell?_alloc_past, *]
  have q2_0_6 : z2.cell? ⟨w.heap.size, 6, none⟩ = some (.int .i64 0) := by rw [hD2.cell (by simp; omega) (by omega) (by omega)]; simp [go_sem, World.cell?_alloc_past, *]
  have q2_0_7 : z2.cell? ⟨w.heap.size, 7, none⟩ = some (.int .i64 0) := by rw [hD2.cell (by simp; omega) (by omega) (by omega)]; simp [go_sem, World.cell?_alloc_past, *]
  have q2f0 : ∀ j, z2.frozen? ⟨w.heap.size, j, none⟩ = false := fun j => by rw [hD2.frozen (by simp; omega) (by omega) (by omega)]; simp [go_sem, *]
  have q2_1_0 : z2.cell? ⟨v, 0, none⟩ = some (.string ⟨#[98, 97, 110, 107]⟩) := by rw [hD2.cell (by simp; omega) (by omega) (by omega)]; simp [go_sem, World.cell?_alloc_past, *]
  have q2_1_1 : z2.cell? ⟨v, 1, none⟩ = some (.int .i64 50000) := by rw [hD2.cell (by simp; omega) (by omega) (by omega)]; simp [go_sem, World.cell?_alloc_past, *]
  have q2_1_2 : z2.cell? ⟨v, 2, none⟩ = some (.int .i64 300000) := by rw [hD2.cell (by simp; omega) (by omega) (by omega)]; simp [go_sem, World.cell?_alloc_past, *]
  have q2_1_3 : z2.cell? ⟨v, 3, none⟩ = some (.string ⟨#[115, 49, 50]⟩) := by rw [hD2.cell (by simp; omega) (by omega) (by omega)]; simp [go_sem, World.cell?_alloc_past, *]
  have q2_1_4 : z2.cell? ⟨v, 4, none⟩ = some (.int .i64 12000) := by rw [hD2.cell (by simp; omega) (by omega) (by omega)]; simp [go_sem, World.cell?_alloc_past, *]
  have q2_1_5 : z2.cell? ⟨v, 5, none⟩ = some (.int .i64 232000) := by rw [hD2.cell (by simp; omega) (by omega) (by omega)]; simp [go_sem, World.cell?_alloc_past, *]
  have q2_2_0 : z2.cell? ⟨f, 0, none⟩ = some (.int .i64 0) := by rw [hD2.cell (by simp; omega) (by omega) (by omega)]; simp [go_sem, World.cell?_alloc_past, *]
  have q2_2_1 : z2.cell? ⟨f, 1, none⟩ = some (.int .i64 1) := by rw [hD2.cell (by simp; omega) (by omega) (by omega)]; simp [go_sem, World.cell?_alloc_past, *]
  have q2_2_2 : z2.cell? ⟨f, 2, none⟩ = some (.string ⟨#[]⟩) := by rw [hD2.cell (by simp; omega) (by omega) (by omega)]; simp [go_sem, World.cell?_alloc_past, *]
  have q2_2_3 : z2.cell? ⟨f, 3, none⟩ = some (.string ⟨#[98, 97, 110, 107]⟩) := by rw [hD2.cell (by simp; omega) (by omega) (by omega)]; simp [go_sem, World.cell?_alloc_past, *]
  have q2_2_4 : z2.cell? ⟨f, 4, none⟩ = some (.int .i64 210) := by rw [hD2.cell (by simp; omega) (by omega) (by omega)]; simp [go_sem, World.cell?_alloc_past, *]
  have q2_2_5 : z2.cell? ⟨f, 5, none⟩ = some (.int .i64 0) := by rw [hD2.cell (by simp; omega) (by omega) (by omega)]; simp [go_sem, World.cell?_alloc_past, *]
  have q2_2_6 : z2.cell? ⟨f, 6, none⟩ = some (.int .i64 10000000) := by rw [hD2.cell (by simp; omega) (by omega) (by omega)]; simp [go_sem, World.cell?_alloc_past, *]
  have q2_2_7 : z2.cell? ⟨f, 7, none⟩ = some (.bool false) := by rw [hD2.cell (by simp; omega) (by omega) (by omega)]; simp [go_sem, World.cell?_alloc_past, *]
  have q2_2_8 : z2.cell? ⟨f, 8, none⟩ = some (.int .i64 1) := by rw [hD2.cell (by simp; omega) (by omega) (by omega)]; simp [go_sem, World.cell?_alloc_past, *]
  have q2_2_9 : z2.cell? ⟨f, 9, none⟩ = some (.int .i64 1) := by rw [hD2.cell (by simp; omega) (by omega) (by omega)]; simp [go_sem, World.cell?_alloc_past, *]
  have q2_2_10 : z2.cell? ⟨f, 10, none⟩ = some (.string ⟨#[98, 97, 110, 107]⟩) := by rw [hD2.cell (by simp; omega) (by omega) (by omega)]; simp [go_sem, World.cell?_alloc_past, *]
  have q2_2_11 : z2.cell? ⟨f, 11, none⟩ = some (.string ⟨#[115, 49, 50]⟩) := by rw [hD2.cell (by simp; omega) (by omega) (by omega)]; simp [go_sem, World.cell?_alloc_past, *]
  have q2_2_12 : z2.cell? ⟨f, 12, none⟩ = some (.int .i64 0) := by rw [hD2.cell (by simp; omega) (by omega) (by omega)]; simp [go_sem, World.cell?_alloc_past, *]
  have q2_2_13 : z2.cell? ⟨f, 13, none⟩ = some (.int .i64 0) := by rw [hD2.cell (by simp; omega) (by omega) (by omega)]; simp [go_sem, World.cell?_alloc_past, *]
  have q2_2_14 : z2.cell? ⟨f, 14, none⟩ = some (.int .i64 1900000) := by rw [hD2.cell (by simp; omega) (by omega) (by omega)]; simp [go_sem, World.cell?_alloc_past, *]
  have q2_2_15 : z2.cell? ⟨f, 15, none⟩ = some (.bool false) := by rw [hD2.cell (by simp; omega) (by omega) (by omega)]; simp [go_sem, World.cell?_alloc_past, *]
  have hBz2 : Below w.heap.size w z2 := by
    have hh := hBz1.alloc hBz1.size (.cells #[.int .i64 1, .int .i64 1, .string ⟨#[98, 97, 110, 107]⟩, .string ⟨#[115, 49, 50]⟩, .int .i64 0, .int .i64 0, .int .i64 1900000, .bool false] 38)
    exact ⟨hD2.os.trans hh.os, hD2.tape.trans hh.tape, hD2.output.trans hh.output, Nat.le_trans hh.size hD2.size, fun q hq => (hD2.block q (Nat.lt_of_lt_of_le hq hh.size) (by omega) (by omega)).trans (hh.block q hq)⟩
  have s2l0 : w.heap.size < z2.heap.size := by omega
  have s2n0 : z2.heap.size ≠ w.heap.size := by omega
  have s2t00 : w.heap.size < z2.heap.size + 1 := by omega
  have s2t01 : w.heap.size < z2.heap.size + 1 + 1 := by omega
  have s2t02 : w.heap.size < z2.heap.size + 1 + 1 + 1 := by omega
  have s2l1 : v < z2.heap.size := by omega
  have s2n1 : z2.heap.size ≠ v := by omega
  have s2t10 : v < z2.heap.size + 1 := by omega
  have s2t11 : v < z2.heap.size + 1 + 1 := by omega
  have s2t12 : v < z2.heap.size + 1 + 1 + 1 := by omega
  have s2l2 : f < z2.heap.size := by omega
  have s2n2 : z2.heap.size ≠ f := by omega
  have s2t20 : f < z2.heap.size + 1 := by omega
  have s2t21 : f < z2.heap.size + 1 + 1 := by omega
  have s2t22 : f < z2.heap.size + 1 + 1 + 1 := by omega
  have s2l3 : rb < z2.heap.size := by omega
  have s2n3 : z2.heap.size ≠ rb := by omega
  have s2t30 : rb < z2.heap.size + 1 := by omega
  have s2t31 : rb < z2.heap.size + 1 + 1 := by omega
  have s2t32 : rb < z2.heap.size + 1 + 1 + 1 := by omega
  have s2l4 : vb < z2.heap.size := by omega
  have s2n4 : z2.heap.size ≠ vb := by omega
  have s2t40 : vb < z2.heap.size + 1 := by omega
  have s2t41 : vb < z2.heap.size + 1 + 1 := by omega
  have s2t42 : vb < z2.heap.size + 1 + 1 + 1 := by omega
  clear hD2 hba2 zz2 q1_0_0 q1_0_1 q1_0_2 q1_0_3 q1_0_4 q1_0_5 q1_0_6 q1_0_7 q1f0 q1_1_0 q1_1_1 q1_1_2 q1_1_3 q1_1_4 q1_1_5 q1_2_0 q1_2_1 q1_2_2 q1_2_3 q1_2_4 q1_2_5 q1_2_6 q1_2_7 q1_2_8 q1_2_9 q1_2_10 q1_2_11 q1_2_12 q1_2_13 q1_2_14 q1_2_15 s1l0 s1n0 s1t00 s1t01 s1t02 s1l1 s1n1 s1t10 s1t11 s1t12 s1l2 s1n2 s1t20 s1t21 s1t22 s1l3 s1n3 s1t30 s1t31 s1t32 s1l4 s1n4 s1t40 s1t41 s1t42 m1_0 m1_1 m1_2 m1_3 m1_4 m1_5 m1_6 m1_7 m1_8 m1_9 m1_10 m1_11 m1_12 m1_13 m1_14 m1_15 m1_16 m1_17 m1_18 m1_19 m1f m1r hBz1
  go_wp2_with fail
  rw [rounds_succ]
  go_wp2
  refine bodyPost_ret (v := .tuple #[.agg #[.slice (some ⟨vb, 0, none⟩) 2 vcap, .int .i64 2100000, .int .i64 0, .int .i64 7900000, .int .i64 0, .int .i64 0, .int .i64 0, .int .i64 1], .int .i64 0, .int .i64 0]) (by simp [results, Try.results58, go_sem, *]) rfl ⟨vb, vcap, rfl, by omega, by simp; omega, ?_, ?_⟩
  · refine ⟨(by simp [go_sem, *]), (by simp [go_sem, *]), (by simp [go_sem, *]), (by simp [go_sem, *]), (by simp [go_sem, *]), (by simp [go_sem, *]), (by simp [go_sem, *]), (by simp [go_sem, *]), (by simp [go_sem, *]), (by simp [go_sem, *]), (by simp [go_sem, *]), (by simp [go_sem, *])⟩
  · (repeat (first | (with_reducible refine Below.drew ?_) | (with_reducible refine below_drewN ?_ _) | (with_reducible refine Below.alloc ?_ (by first | omega | (simp; done) | (simp; omega) | (simp at *; omega)) _) | (with_reducible refine Below.setCell ?_ (by first | omega | (simp; done) | (simp; omega) | (simp at *; omega)) _) | (with_reducible exact Below.refl _ _) | (with_reducible assumption) | (with_reducible refine Below.trans ?_ (Below.mono (by assumption) (by first | omega | (simp; done) | (simp; omega) | (simp at *; omega))))))
end Go.Proofs.Ytjkhjjmmkdfjmaa
