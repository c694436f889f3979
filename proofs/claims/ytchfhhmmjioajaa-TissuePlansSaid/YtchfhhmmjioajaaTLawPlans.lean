/- The walk of shotlinelaw03.TissuePlans: it returns true. -/
import Derived.Test.YtchfhhmmjioajaaTAwake
import Derived.Test.YtchfhhmmjioajaaTPRef
import Derived.Test.YtchfhhmmjioajaaTPCopy
import Derived.Deep.CutRange
import Derived.Deep.CutBlock
import Derived.Outline
namespace Go.Proofs.Ytchfhhmmjioajaa
open Go.ChangeShapes Go.WideShapes Go.ChangeAt Go.RowKit
set_option linter.unusedVariables false
set_option linter.unusedSimpArgs false
attribute [local go_sem ↓] Go.wp_at_zero Go.wp_at_succ
theorem tot_pln {s : Int} {G : List Gp} {L : List Dl} (h : totE s G L = 0) : plnE s G L.length = 0 ∧ fstN (errAt L G.length) L.length = 0 := by
  unfold totE at h
  by_cases hp : plnE s G L.length = 0
  · rw [if_pos hp] at h; exact ⟨hp, h⟩
  · rw [if_neg hp] at h; exact absurd h hp
theorem leg_right {s : Int} {G : List Gp} {L : List Dl} {k : Nat} (h : totE s G L = 0) (hk : k < L.length) : legE (legAt s G L k).f (legAt s G L k).t (legAt s G L k).s (legAt s G L k).o (legAt s G L k).h = 0 := by
  obtain ⟨hp, hf⟩ := tot_pln h
  obtain ⟨p1, p2, p3, p4⟩ := plnE_ok hp
  have hd : 0 ≤ depAt L k ∧ depAt L k ≤ 30000 := by
    cases k with
    | zero => unfold depAt; simp
    | succ k =>
      have he := fstN_all hf k (by omega)
      unfold errAt at he
      have hb := (dlE_ok he).2.1
      unfold depAt
      rw [if_neg (by omega), Nat.add_sub_cancel]
      exact hb
  have he := fstN_all hf k hk
  unfold errAt at he
  obtain ⟨b1, b2, b3, b4⟩ := dlE_ok he
  obtain ⟨q1, q2⟩ := inB_iff.1 p1
  have hgl : (L.getD k default).g.toNat < G.length := by omega
  have hg := fstE_all p4 _ hgl
  unfold gpE at hg
  have hgd : G.getD (L.getD k default).g.toNat default = G[(L.getD k default).g.toNat] := getD_is hgl
  unfold legE legAt
  dsimp only
  rw [hgd, hg, rngE_t (inB_true (by omega) (by omega)), rngE_t (inB_true (by omega) (by omega)), rngE_t (inB_true b1.1 b1.2), if_pos (by decide), if_neg]
  rintro ⟨z, hne⟩
  exact b4 ⟨z, fun e => hne (by rw [e])⟩
theorem CheckLeg_0 (f t s o h : Int) (w : World) (hz : Hid (legE f t s o h = 0)) :
    Calls Try.prog 34 #[.agg #[.int .i64 f, .int .i64 t, .int .i64 s, .int .i64 o, .int .i64 h]] w fun e w' => e = .returned (.int .i64 0) ∧ Below w.heap.size w w' := by
  have := CheckLeg_any f t s o h w
  rw [hz.out] at this
  exact this
theorem legs_bad (nm : Value) (s : Int) (G : List Gp) (L : List Dl) (A B : Option Addr) (cap cap' : Nat) (E : Int) (w : World) (hl : G.length ≤ 1000000) (hn : L.length ≤ 1000000) (hE : Hid (totE s G L = E)) (hz : Hid (E ≠ 0)) (hG : SlGp w A G) (hL : SlDl w B L) :
    Calls Try.prog 65 #[.agg #[nm, .int .i64 s, .slice A G.length cap, .slice B L.length cap']] w fun e w' => e = .returned (.tuple #[.slice none 0 0, .int .i64 E]) ∧ Below w.heap.size w w' := by
  refine (LegsOf_any nm s G L A B cap cap' w hl hn hG hL).mono ?_
  rintro e w' ⟨hb, ⟨_, rfl⟩ | ⟨h0, _⟩⟩
  · exact ⟨by rw [hE.out], hb⟩
  · exact absurd (hE.out.symm.trans h0) hz.out
theorem legs_good (nm : Value) (s : Int) (G : List Gp) (L : List Dl) (A B : Option Addr) (cap cap' : Nat) (w : World) (hl : G.length ≤ 1000000) (hn : L.length ≤ 1000000) (hE : Hid (totE s G L = 0)) (hG : SlGp w A G) (hL : SlDl w B L) :
    Calls Try.prog 65 #[.agg #[nm, .int .i64 s, .slice A G.length cap, .slice B L.length cap']] w fun e w' => ∃ A' c', e = .returned (.tuple #[.slice A' L.length c', .int .i64 0]) ∧ SlTl w' A' (legsV s G L L.length) ∧ Below w.heap.size w w' := by
  refine (LegsOf_any nm s G L A B cap cap' w hl hn hG hL).mono ?_
  rintro e w' ⟨hb, ⟨h0, _⟩ | ⟨_, A', c', rfl, hS⟩⟩
  · exact absurd hE.out h0
  · exact ⟨A', c', rfl, hS, hb⟩
theorem refLegs_bad (nm : Value) (s : Int) (G : List Gp) (L : List Dl) (A B : Option Addr) (cap cap' : Nat) (E : Int) (w : World) (hl : G.length ≤ 1000000) (hn : L.length ≤ 1000000) (hE : Hid (totE s G L = E)) (hz : Hid (E ≠ 0)) (hG : SlGp w A G) (hL : SlDl w B L) :
    Calls Try.prog 67 #[.agg #[nm, .int .i64 s, .slice A G.length cap, .slice B L.length cap']] w fun e w' => e = .returned (.tuple #[.slice none 0 0, .int .i64 E]) ∧ Below w.heap.size w w' := by
  refine (refLegsOf_any nm s G L A B cap cap' w hl hn hG hL).mono ?_
  rintro e w' ⟨hb, ⟨_, rfl⟩ | ⟨h0, _⟩⟩
  · exact ⟨by rw [hE.out], hb⟩
  · exact absurd (hE.out.symm.trans h0) hz.out
theorem refLegs_good (nm : Value) (s : Int) (G : List Gp) (L : List Dl) (A B : Option Addr) (cap cap' : Nat) (w : World) (hl : G.length ≤ 1000000) (hn : L.length ≤ 1000000) (hE : Hid (totE s G L = 0)) (hG : SlGp w A G) (hL : SlDl w B L) :
    Calls Try.prog 67 #[.agg #[nm, .int .i64 s, .slice A G.length cap, .slice B L.length cap']] w fun e w' => ∃ A' c', e = .returned (.tuple #[.slice A' L.length c', .int .i64 0]) ∧ SlTl w' A' (legsV s G L L.length) ∧ Below w.heap.size w w' := by
  refine (refLegsOf_any nm s G L A B cap cap' w hl hn hG hL).mono ?_
  rintro e w' ⟨hb, ⟨h0, _⟩ | ⟨_, A', c', rfl, hS⟩⟩
  · exact absurd hE.out h0
  · exact ⟨A', c', rfl, hS, hb⟩
set_option maxRecDepth 100000 in
set_option maxHeartbeats 4000000 in
theorem tissuePlans_any (bs : ByteArray) (s : Int) (G : List Gp) (L : List Dl) (A B : Option Addr) (cap cap' : Nat) (w : World) (hbs : bs.size ≤ 9223372036854775807) (hl : G.length ≤ 9223372036854775807) (hn : L.length ≤ 9223372036854775807) (hA : A = none → cap = 0) (hB : B = none → cap' = 0) (hG : SlGp w A G) (hL : SlDl w B L) :
    Calls Try.prog 14 #[.agg #[.string bs, .int .i64 s, .slice A G.length cap, .slice B L.length cap']] w fun e w' => e = .returned (.bool true) ∧ Below w.heap.size w w' := by
  have HG := Lib.hid hG
  have HL := Lib.hid hL
  have HNA := Lib.hid hA
  have HNB := Lib.hid hB
  clear hG hL hA hB
  by_cases a1 : 20 < bs.size
  · have a1' : (20 : Int) < bs.size := by omega
    go_enter Try.func14, Try.ntmps14
    go_wp2_with fail
    refine (tawake_any _).mono ?_
    rintro e w1 ⟨rfl, hb1⟩
    have z1 := hb1.size
    try simp at z1
    have c0 : w1.cell? ⟨w.heap.size, 0, none⟩ = some (.string bs) := by rw [(bcell hb1).1 _ _ (by first | (simp; done) | (simp; omega) | omega)]; simp [go_sem, World.cell?_alloc_past]
    have c1 : w1.cell? ⟨w.heap.size, 1, none⟩ = some (.int .i64 s) := by rw [(bcell hb1).1 _ _ (by first | (simp; done) | (simp; omega) | omega)]; simp [go_sem, World.cell?_alloc_past]
    have c2 : w1.cell? ⟨w.heap.size, 2, none⟩ = some (.slice A G.length cap) := by rw [(bcell hb1).1 _ _ (by first | (simp; done) | (simp; omega) | omega)]; simp [go_sem, World.cell?_alloc_past]
    have c3 : w1.cell? ⟨w.heap.size, 3, none⟩ = some (.slice B L.length cap') := by rw [(bcell hb1).1 _ _ (by first | (simp; done) | (simp; omega) | omega)]; simp [go_sem, World.cell?_alloc_past]
    have hB1 : Below w.heap.size w w1 := (by (repeat (first | (with_reducible refine Below.drew ?_) | (with_reducible refine below_drewN ?_ _) | (with_reducible refine Below.alloc ?_ (by first | omega | (simp; done) | (simp; omega) | (simp at *; omega)) _) | (with_reducible refine Below.setCell ?_ (by first | omega | (simp; done) | (simp; omega) | (simp at *; omega)) _) | (with_reducible exact Below.refl _ _) | (with_reducible assumption) | (with_reducible refine Below.trans ?_ (Below.mono (by assumption) (by first | omega | (simp; done) | (simp; omega) | (simp at *; omega)))))))
    have o1 : w.heap.size < w1.heap.size := by omega
    clear hb1
    go_wp2
    go_ret
    exact ⟨by first | rfl | simp, hB1⟩
  have a1' : ¬ (20 : Int) < bs.size := by omega
  by_cases a2 : 10 < G.length
  · have a2' : (10 : Int) < G.length := by omega
    go_enter Try.func14, Try.ntmps14
    go_wp2_with fail
    refine (tawake_any _).mono ?_
    rintro e w1 ⟨rfl, hb1⟩
    have z1 := hb1.size
    try simp at z1
    have c0 : w1.cell? ⟨w.heap.size, 0, none⟩ = some (.string bs) := by rw [(bcell hb1).1 _ _ (by first | (simp; done) | (simp; omega) | omega)]; simp [go_sem, World.cell?_alloc_past]
    have c1 : w1.cell? ⟨w.heap.size, 1, none⟩ = some (.int .i64 s) := by rw [(bcell hb1).1 _ _ (by first | (simp; done) | (simp; omega) | omega)]; simp [go_sem, World.cell?_alloc_past]
    have c2 : w1.cell? ⟨w.heap.size, 2, none⟩ = some (.slice A G.length cap) := by rw [(bcell hb1).1 _ _ (by first | (simp; done) | (simp; omega) | omega)]; simp [go_sem, World.cell?_alloc_past]
    have c3 : w1.cell? ⟨w.heap.size, 3, none⟩ = some (.slice B L.length cap') := by rw [(bcell hb1).1 _ _ (by first | (simp; done) | (simp; omega) | omega)]; simp [go_sem, World.cell?_alloc_past]
    have hB1 : Below w.heap.size w w1 := (by (repeat (first | (with_reducible refine Below.drew ?_) | (with_reducible refine below_drewN ?_ _) | (with_reducible refine Below.alloc ?_ (by first | omega | (simp; done) | (simp; omega) | (simp at *; omega)) _) | (with_reducible refine Below.setCell ?_ (by first | omega | (simp; done) | (simp; omega) | (simp at *; omega)) _) | (with_reducible exact Below.refl _ _) | (with_reducible assumption) | (with_reducible refine Below.trans ?_ (Below.mono (by assumption) (by first | omega | (simp; done) | (simp; omega) | (simp at *; omega)))))))
    have o1 : w.heap.size < w1.heap.size := by omega
    clear hb1
    go_wp2
    go_ret
    exact ⟨by first | rfl | simp, hB1⟩
  have a2' : ¬ (10 : Int) < G.length := by omega
  obtain ⟨E, hE⟩ : ∃ E, Hid (totE s G L = E) := ⟨_, rfl⟩
  by_cases a3 : 8 < L.length
  · have a3' : (8 : Int) < L.length := by omega
    by_cases a4 : L.length ≤ 60
    · have a4' : (L.length : Int) ≤ 60 := by omega
      go_enter Try.func14, Try.ntmps14
      go_wp2_with fail
      refine (tawake_any _).mono ?_
      rintro e w1 ⟨rfl, hb1⟩
      have z1 := hb1.size
      try simp at z1
      have c0 : w1.cell? ⟨w.heap.size, 0, none⟩ = some (.string bs) := by rw [(bcell hb1).1 _ _ (by first | (simp; done) | (simp; omega) | omega)]; simp [go_sem, World.cell?_alloc_past]
      have c1 : w1.cell? ⟨w.heap.size, 1, none⟩ = some (.int .i64 s) := by rw [(bcell hb1).1 _ _ (by first | (simp; done) | (simp; omega) | omega)]; simp [go_sem, World.cell?_alloc_past]
      have c2 : w1.cell? ⟨w.heap.size, 2, none⟩ = some (.slice A G.length cap) := by rw [(bcell hb1).1 _ _ (by first | (simp; done) | (simp; omega) | omega)]; simp [go_sem, World.cell?_alloc_past]
      have c3 : w1.cell? ⟨w.heap.size, 3, none⟩ = some (.slice B L.length cap') := by rw [(bcell hb1).1 _ _ (by first | (simp; done) | (simp; omega) | omega)]; simp [go_sem, World.cell?_alloc_past]
      have hB1 : Below w.heap.size w w1 := (by (repeat (first | (with_reducible refine Below.drew ?_) | (with_reducible refine below_drewN ?_ _) | (with_reducible refine Below.alloc ?_ (by first | omega | (simp; done) | (simp; omega) | (simp at *; omega)) _) | (with_reducible refine Below.setCell ?_ (by first | omega | (simp; done) | (simp; omega) | (simp at *; omega)) _) | (with_reducible exact Below.refl _ _) | (with_reducible assumption) | (with_reducible refine Below.trans ?_ (Below.mono (by assumption) (by first | omega | (simp; done) | (simp; omega) | (simp at *; omega)))))))
      have o1 : w.heap.size < w1.heap.size := by omega
      clear hb1
      go_wp2
      go_ret
      exact ⟨by first | rfl | simp, hB1⟩
    have a4' : ¬ (L.length : Int) ≤ 60 := by omega
    by_cases a5 : 62 < L.length
    · have a5' : (62 : Int) < L.length := by omega
      go_enter Try.func14, Try.ntmps14
      go_wp2_with fail
      refine (tawake_any _).mono ?_
      rintro e w1 ⟨rfl, hb1⟩
      have z1 := hb1.size
      try simp at z1
      have c0 : w1.cell? ⟨w.heap.size, 0, none⟩ = some (.string bs) := by rw [(bcell hb1).1 _ _ (by first | (simp; done) | (simp; omega) | omega)]; simp [go_sem, World.cell?_alloc_past]
      have c1 : w1.cell? ⟨w.heap.size, 1, none⟩ = some (.int .i64 s) := by rw [(bcell hb1).1 _ _ (by first | (simp; done) | (simp; omega) | omega)]; simp [go_sem, World.cell?_alloc_past]
      have c2 : w1.cell? ⟨w.heap.size, 2, none⟩ = some (.slice A G.length cap) := by rw [(bcell hb1).1 _ _ (by first | (simp; done) | (simp; omega) | omega)]; simp [go_sem, World.cell?_alloc_past]
      have c3 : w1.cell? ⟨w.heap.size, 3, none⟩ = some (.slice B L.length cap') := by rw [(bcell hb1).1 _ _ (by first | (simp; done) | (simp; omega) | omega)]; simp [go_sem, World.cell?_alloc_past]
      have hB1 : Below w.heap.size w w1 := (by (repeat (first | (with_reducible refine Below.drew ?_) | (with_reducible refine below_drewN ?_ _) | (with_reducible refine Below.alloc ?_ (by first | omega | (simp; done) | (simp; omega) | (simp at *; omega)) _) | (with_reducible refine Below.setCell ?_ (by first | omega | (simp; done) | (simp; omega) | (simp at *; omega)) _) | (with_reducible exact Below.refl _ _) | (with_reducible assumption) | (with_reducible refine Below.trans ?_ (Below.mono (by assumption) (by first | omega | (simp; done) | (simp; omega) | (simp at *; omega)))))))
      have o1 : w.heap.size < w1.heap.size := by omega
      clear hb1
      go_wp2
      go_ret
      exact ⟨by first | rfl | simp, hB1⟩
    have a5' : ¬ (62 : Int) < L.length := by omega
    have gz : Hid (E ≠ 0) := fun h => by
      have := (plnE_ok (tot_pln (hE.out.trans h)).1).2.2.1
      omega
    go_enter Try.func14, Try.ntmps14
    go_wp2_with fail
    refine (tawake_any _).mono ?_
    rintro e w1 ⟨rfl, hb1⟩
    have z1 := hb1.size
    try simp at z1
    have c0 : w1.cell? ⟨w.heap.size, 0, none⟩ = some (.string bs) := by rw [(bcell hb1).1 _ _ (by first | (simp; done) | (simp; omega) | omega)]; simp [go_sem, World.cell?_alloc_past]
    have c1 : w1.cell? ⟨w.heap.size, 1, none⟩ = some (.int .i64 s) := by rw [(bcell hb1).1 _ _ (by first | (simp; done) | (simp; omega) | omega)]; simp [go_sem, World.cell?_alloc_past]
    have c2 : w1.cell? ⟨w.heap.size, 2, none⟩ = some (.slice A G.length cap) := by rw [(bcell hb1).1 _ _ (by first | (simp; done) | (simp; omega) | omega)]; simp [go_sem, World.cell?_alloc_past]
    have c3 : w1.cell? ⟨w.heap.size, 3, none⟩ = some (.slice B L.length cap') := by rw [(bcell hb1).1 _ _ (by first | (simp; done) | (simp; omega) | omega)]; simp [go_sem, World.cell?_alloc_past]
    have hB1 : Below w.heap.size w w1 := (by (repeat (first | (with_reducible refine Below.drew ?_) | (with_reducible refine below_drewN ?_ _) | (with_reducible refine Below.alloc ?_ (by first | omega | (simp; done) | (simp; omega) | (simp at *; omega)) _) | (with_reducible refine Below.setCell ?_ (by first | omega | (simp; done) | (simp; omega) | (simp at *; omega)) _) | (with_reducible exact Below.refl _ _) | (with_reducible assumption) | (with_reducible refine Below.trans ?_ (Below.mono (by assumption) (by first | omega | (simp; done) | (simp; omega) | (simp at *; omega)))))))
    have o1 : w.heap.size < w1.heap.size := by omega
    clear hb1
    go_wp2_with fail
    refine (copyPlan_any bs s G L A B cap cap' _ (by omega) (by omega) HNA.out HNB.out (HG.out.below hB1) (HL.out.below hB1)).mono ?_
    rintro e w2 ⟨A2, cap2, B2, cap3, rfl, hS2, hS3, hb2⟩
    have HS2 := Lib.hid hS2
    have HS3 := Lib.hid hS3
    clear hS2 hS3
    replace c0 := (hb2.cell (p := ⟨w.heap.size, 0, none⟩) o1).trans c0
    replace c1 := (hb2.cell (p := ⟨w.heap.size, 1, none⟩) o1).trans c1
    replace c2 := (hb2.cell (p := ⟨w.heap.size, 2, none⟩) o1).trans c2
    replace c3 := (hb2.cell (p := ⟨w.heap.size, 3, none⟩) o1).trans c3
    have hB2 : Below w.heap.size w w2 := hB1.trans (hb2.mono hB1.size)
    have o2 : w.heap.size < w2.heap.size := Nat.lt_of_lt_of_le o1 hb2.size
    clear hb2 hB1 o1 z1
    go_wp2_with fail
    refine (legs_bad (.string bs) s G L A2 B2 cap2 cap3 E _ (by omega) (by omega) hE gz HS2.out HS3.out).mono ?_
    rintro e w3 ⟨rfl, hb3⟩
    replace c0 := (hb3.cell (p := ⟨w.heap.size, 0, none⟩) o2).trans c0
    replace c1 := (hb3.cell (p := ⟨w.heap.size, 1, none⟩) o2).trans c1
    replace c2 := (hb3.cell (p := ⟨w.heap.size, 2, none⟩) o2).trans c2
    replace c3 := (hb3.cell (p := ⟨w.heap.size, 3, none⟩) o2).trans c3
    have hB3 : Below w.heap.size w w3 := hB2.trans (hb3.mono hB2.size)
    have o3 : w.heap.size < w3.heap.size := Nat.lt_of_lt_of_le o2 hb3.size
    clear hb3 hB2 o2 HS2 HS3
    go_wp2_with fail
    refine (refLegs_bad (.string bs) s G L A B cap cap' E _ (by omega) (by omega) hE gz (HG.out.below hB3) (HL.out.below hB3)).mono ?_
    rintro e w4 ⟨rfl, hb4⟩
    replace c0 := (hb4.cell (p := ⟨w.heap.size, 0, none⟩) o3).trans c0
    replace c1 := (hb4.cell (p := ⟨w.heap.size, 1, none⟩) o3).trans c1
    replace c2 := (hb4.cell (p := ⟨w.heap.size, 2, none⟩) o3).trans c2
    replace c3 := (hb4.cell (p := ⟨w.heap.size, 3, none⟩) o3).trans c3
    have hB4 : Below w.heap.size w w4 := hB3.trans (hb4.mono hB3.size)
    clear hb4 hB3
    go_wp2
    refine wp_loop_rounds 1 ?_
    rw [rounds_succ]
    go_wp2
    go_ret
    exact ⟨by first | rfl | simp, hB4⟩
  have a3' : ¬ (8 : Int) < L.length := by omega
  have a5' : ¬ (62 : Int) < L.length := by omega
  rcases ez2 E with ⟨gz, gb⟩ | ⟨gz, gb⟩
  rotate_left
  · go_enter Try.func14, Try.ntmps14
    go_wp2_with fail
    refine (tawake_any _).mono ?_
    rintro e w1 ⟨rfl, hb1⟩
    have z1 := hb1.size
    try simp at z1
    have c0 : w1.cell? ⟨w.heap.size, 0, none⟩ = some (.string bs) := by rw [(bcell hb1).1 _ _ (by first | (simp; done) | (simp; omega) | omega)]; simp [go_sem, World.cell?_alloc_past]
    have c1 : w1.cell? ⟨w.heap.size, 1, none⟩ = some (.int .i64 s) := by rw [(bcell hb1).1 _ _ (by first | (simp; done) | (simp; omega) | omega)]; simp [go_sem, World.cell?_alloc_past]
    have c2 : w1.cell? ⟨w.heap.size, 2, none⟩ = some (.slice A G.length cap) := by rw [(bcell hb1).1 _ _ (by first | (simp; done) | (simp; omega) | omega)]; simp [go_sem, World.cell?_alloc_past]
    have c3 : w1.cell? ⟨w.heap.size, 3, none⟩ = some (.slice B L.length cap') := by rw [(bcell hb1).1 _ _ (by first | (simp; done) | (simp; omega) | omega)]; simp [go_sem, World.cell?_alloc_past]
    have hB1 : Below w.heap.size w w1 := (by (repeat (first | (with_reducible refine Below.drew ?_) | (with_reducible refine below_drewN ?_ _) | (with_reducible refine Below.alloc ?_ (by first | omega | (simp; done) | (simp; omega) | (simp at *; omega)) _) | (with_reducible refine Below.setCell ?_ (by first | omega | (simp; done) | (simp; omega) | (simp at *; omega)) _) | (with_reducible exact Below.refl _ _) | (with_reducible assumption) | (with_reducible refine Below.trans ?_ (Below.mono (by assumption) (by first | omega | (simp; done) | (simp; omega) | (simp at *; omega)))))))
    have o1 : w.heap.size < w1.heap.size := by omega
    clear hb1
    go_wp2_with fail
    refine (copyPlan_any bs s G L A B cap cap' _ (by omega) (by omega) HNA.out HNB.out (HG.out.below hB1) (HL.out.below hB1)).mono ?_
    rintro e w2 ⟨A2, cap2, B2, cap3, rfl, hS2, hS3, hb2⟩
    have HS2 := Lib.hid hS2
    have HS3 := Lib.hid hS3
    clear hS2 hS3
    replace c0 := (hb2.cell (p := ⟨w.heap.size, 0, none⟩) o1).trans c0
    replace c1 := (hb2.cell (p := ⟨w.heap.size, 1, none⟩) o1).trans c1
    replace c2 := (hb2.cell (p := ⟨w.heap.size, 2, none⟩) o1).trans c2
    replace c3 := (hb2.cell (p := ⟨w.heap.size, 3, none⟩) o1).trans c3
    have hB2 : Below w.heap.size w w2 := hB1.trans (hb2.mono hB1.size)
    have o2 : w.heap.size < w2.heap.size := Nat.lt_of_lt_of_le o1 hb2.size
    clear hb2 hB1 o1 z1
    go_wp2_with fail
    refine (legs_bad (.string bs) s G L A2 B2 cap2 cap3 E _ (by omega) (by omega) hE gz HS2.out HS3.out).mono ?_
    rintro e w3 ⟨rfl, hb3⟩
    replace c0 := (hb3.cell (p := ⟨w.heap.size, 0, none⟩) o2).trans c0
    replace c1 := (hb3.cell (p := ⟨w.heap.size, 1, none⟩) o2).trans c1
    replace c2 := (hb3.cell (p := ⟨w.heap.size, 2, none⟩) o2).trans c2
    replace c3 := (hb3.cell (p := ⟨w.heap.size, 3, none⟩) o2).trans c3
    have hB3 : Below w.heap.size w w3 := hB2.trans (hb3.mono hB2.size)
    have o3 : w.heap.size < w3.heap.size := Nat.lt_of_lt_of_le o2 hb3.size
    clear hb3 hB2 o2 HS2 HS3
    go_wp2_with fail
    refine (refLegs_bad (.string bs) s G L A B cap cap' E _ (by omega) (by omega) hE gz (HG.out.below hB3) (HL.out.below hB3)).mono ?_
    rintro e w4 ⟨rfl, hb4⟩
    replace c0 := (hb4.cell (p := ⟨w.heap.size, 0, none⟩) o3).trans c0
    replace c1 := (hb4.cell (p := ⟨w.heap.size, 1, none⟩) o3).trans c1
    replace c2 := (hb4.cell (p := ⟨w.heap.size, 2, none⟩) o3).trans c2
    replace c3 := (hb4.cell (p := ⟨w.heap.size, 3, none⟩) o3).trans c3
    have hB4 : Below w.heap.size w w4 := hB3.trans (hb4.mono hB3.size)
    clear hb4 hB3
    go_wp2
    refine wp_loop_rounds 1 ?_
    rw [rounds_succ]
    go_wp2
    go_ret
    exact ⟨by first | rfl | simp, hB4⟩
  have gz1 := gz.out
  subst gz1
  clear gz gb
  go_enter Try.func14, Try.ntmps14
  go_wp2_with fail
  refine (tawake_any _).mono ?_
  rintro e w1 ⟨rfl, hb1⟩
  have z1 := hb1.size
  try simp at z1
  have c0 : w1.cell? ⟨w.heap.size, 0, none⟩ = some (.string bs) := by rw [(bcell hb1).1 _ _ (by first | (simp; done) | (simp; omega) | omega)]; simp [go_sem, World.cell?_alloc_past]
  have c1 : w1.cell? ⟨w.heap.size, 1, none⟩ = some (.int .i64 s) := by rw [(bcell hb1).1 _ _ (by first | (simp; done) | (simp; omega) | omega)]; simp [go_sem, World.cell?_alloc_past]
  have c2 : w1.cell? ⟨w.heap.size, 2, none⟩ = some (.slice A G.length cap) := by rw [(bcell hb1).1 _ _ (by first | (simp; done) | (simp; omega) | omega)]; simp [go_sem, World.cell?_alloc_past]
  have c3 : w1.cell? ⟨w.heap.size, 3, none⟩ = some (.slice B L.length cap') := by rw [(bcell hb1).1 _ _ (by first | (simp; done) | (simp; omega) | omega)]; simp [go_sem, World.cell?_alloc_past]
  have hB1 : Below w.heap.size w w1 := (by (repeat (first | (with_reducible refine Below.drew ?_) | (with_reducible refine below_drewN ?_ _) | (with_reducible refine Below.alloc ?_ (by first | omega | (simp; done) | (simp; omega) | (simp at *; omega)) _) | (with_reducible refine Below.setCell ?_ (by first | omega | (simp; done) | (simp; omega) | (simp at *; omega)) _) | (with_reducible exact Below.refl _ _) | (with_reducible assumption) | (with_reducible refine Below.trans ?_ (Below.mono (by assumption) (by first | omega | (simp; done) | (simp; omega) | (simp at *; omega)))))))
  have o1 : w.heap.size < w1.heap.size := by omega
  clear hb1
  go_wp2_with fail
  refine (copyPlan_any bs s G L A B cap cap' _ (by omega) (by omega) HNA.out HNB.out (HG.out.below hB1) (HL.out.below hB1)).mono ?_
  rintro e w2 ⟨A2, cap2, B2, cap3, rfl, hS2, hS3, hb2⟩
  have HS2 := Lib.hid hS2
  have HS3 := Lib.hid hS3
  clear hS2 hS3
  replace c0 := (hb2.cell (p := ⟨w.heap.size, 0, none⟩) o1).trans c0
  replace c1 := (hb2.cell (p := ⟨w.heap.size, 1, none⟩) o1).trans c1
  replace c2 := (hb2.cell (p := ⟨w.heap.size, 2, none⟩) o1).trans c2
  replace c3 := (hb2.cell (p := ⟨w.heap.size, 3, none⟩) o1).trans c3
  have hB2 : Below w.heap.size w w2 := hB1.trans (hb2.mono hB1.size)
  have o2 : w.heap.size < w2.heap.size := Nat.lt_of_lt_of_le o1 hb2.size
  clear hb2 hB1 o1 z1
  go_wp2_with fail
  refine (legs_good (.string bs) s G L A2 B2 cap2 cap3 _ (by omega) (by omega) hE HS2.out HS3.out).mono ?_
  rintro e w3 ⟨A3, cap4, rfl, hS4, hb3⟩
  have HS4 := Lib.hid hS4
  replace c0 := (hb3.cell (p := ⟨w.heap.size, 0, none⟩) o2).trans c0
  replace c1 := (hb3.cell (p := ⟨w.heap.size, 1, none⟩) o2).trans c1
  replace c2 := (hb3.cell (p := ⟨w.heap.size, 2, none⟩) o2).trans c2
  replace c3 := (hb3.cell (p := ⟨w.heap.size, 3, none⟩) o2).trans c3
  have hB3 : Below w.heap.size w w3 := hB2.trans (hb3.mono hB2.size)
  have o3 : w.heap.size < w3.heap.size := Nat.lt_of_lt_of_le o2 hb3.size
  clear hb3 hB2 o2 HS2 HS3 hS4
  go_wp2_with fail
  refine (refLegs_good (.string bs) s G L A B cap cap' _ (by omega) (by omega) hE (HG.out.below hB3) (HL.out.below hB3)).mono ?_
  rintro e w4 ⟨A4, cap5, rfl, hS5, hb4⟩
  have HS5 := Lib.hid hS5
  have HS4' := Lib.hid (HS4.out.below hb4)
  replace c0 := (hb4.cell (p := ⟨w.heap.size, 0, none⟩) o3).trans c0
  replace c1 := (hb4.cell (p := ⟨w.heap.size, 1, none⟩) o3).trans c1
  replace c2 := (hb4.cell (p := ⟨w.heap.size, 2, none⟩) o3).trans c2
  replace c3 := (hb4.cell (p := ⟨w.heap.size, 3, none⟩) o3).trans c3
  have hB4 : Below w.heap.size w w4 := hB3.trans (hb4.mono hB3.size)
  have o4 : w.heap.size < w4.heap.size := Nat.lt_of_lt_of_le o3 hb4.size
  clear hb4 hB3 hS5 HS4
  go_wp2
  go_loopw [7, 8] (fun bf i wr => ∃ k : Nat, k ≤ L.length ∧ i = .int .i64 k ∧ bf = .int .i64 (s + depAt L k) ∧ Below w4.heap.size w4 wr) (fun _ i _ => L.length - (intOf i).toNat)
  case atStart => exact ⟨0, by omega, rfl, by simp [depAt], Below.refl _ _⟩
  case round =>
    obtain ⟨k, hk, rfl, rfl, hB⟩ := hrel
    have sz := hB.size
    have hBr : Below w.heap.size w wr := hB4.trans (hB.mono hB4.size)
    by_cases hkl : k < L.length
    · have hkl2 : (k : Int) < L.length := by omega
      have hlen := legsV_len s G L L.length
      have hkv : k < (legsV s G L L.length).length := by rw [hlen]; exact hkl
      have HLR := Lib.hid (leg_right hE.out hkl)
      have hdt : Hid ((legAt s G L k).t = s + depAt L (k + 1)) := by show _ = _; rw [depAt_s hkl]; unfold legAt; dsimp only; rw [getD_is hkl]
      have hdf : (legAt s G L k).f = s + depAt L k := rfl
      rcases (HS4'.out.below hB : SlTl wr A3 (legsV s G L L.length)) with hnil | ⟨pb, po, hAA, plt, PL⟩
      · rw [hnil] at hkv; simp at hkv
      rcases (HS5.out.below hB : SlTl wr A4 (legsV s G L L.length)) with hnil | ⟨rb, ro, hBB, rlt, RL⟩
      · rw [hnil] at hkv; simp at hkv
      subst hAA hBB
      obtain ⟨x0, x1, x2, x3, x4⟩ := PL k hkv
      obtain ⟨y0, y1, y2, y3, y4⟩ := RL k hkv
      rw [legsV_at hkv] at x0 x1 x2 x3 x4 y0 y1 y2 y3 y4
      rw [← hdf]
      obtain ⟨p0, h0⟩ : ∃ z, Hid ((legAt s G L k).f = z) := ⟨_, rfl⟩
      obtain ⟨p1, h1⟩ : ∃ z, Hid ((legAt s G L k).t = z) := ⟨_, rfl⟩
      obtain ⟨p2, h2⟩ : ∃ z, Hid ((legAt s G L k).s = z) := ⟨_, rfl⟩
      obtain ⟨p3, h3⟩ : ∃ z, Hid ((legAt s G L k).o = z) := ⟨_, rfl⟩
      obtain ⟨p4, h4⟩ : ∃ z, Hid ((legAt s G L k).h = z) := ⟨_, rfl⟩
      rw [h0.out] at x0 y0 HLR ⊢
      rw [h1.out] at x1 y1 HLR hdt
      rw [h2.out] at x2 y2 HLR
      rw [h3.out] at x3 y3 HLR
      rw [h4.out] at x4 y4 HLR
      clear PL RL h0 h1 h2 h3 h4 hdf hlen hkv
      go_upto_region 13 with (fail)
      have HS : Hid (∀ w', Below wr.heap.size wr w' → w'.cell? ⟨pb, po + k * 5, none⟩ = some (.int .i64 p0) ∧ w'.cell? ⟨pb, po + k * 5 + 1, none⟩ = some (.int .i64 p1) ∧ w'.cell? ⟨pb, po + k * 5 + 2, none⟩ = some (.int .i64 p2) ∧ w'.cell? ⟨pb, po + k * 5 + 3, none⟩ = some (.int .i64 p3) ∧ w'.cell? ⟨pb, po + k * 5 + 4, none⟩ = some (.int .i64 p4) ∧ w'.cell? ⟨rb, ro + k * 5, none⟩ = some (.int .i64 p0) ∧ w'.cell? ⟨rb, ro + k * 5 + 1, none⟩ = some (.int .i64 p1) ∧ w'.cell? ⟨rb, ro + k * 5 + 2, none⟩ = some (.int .i64 p2) ∧ w'.cell? ⟨rb, ro + k * 5 + 3, none⟩ = some (.int .i64 p3) ∧ w'.cell? ⟨rb, ro + k * 5 + 4, none⟩ = some (.int .i64 p4)) := fun w' hb => ⟨(hb.cell (p := ⟨pb, po + k * 5, none⟩) plt).trans x0, (hb.cell (p := ⟨pb, po + k * 5 + 1, none⟩) plt).trans x1, (hb.cell (p := ⟨pb, po + k * 5 + 2, none⟩) plt).trans x2, (hb.cell (p := ⟨pb, po + k * 5 + 3, none⟩) plt).trans x3, (hb.cell (p := ⟨pb, po + k * 5 + 4, none⟩) plt).trans x4, (hb.cell (p := ⟨rb, ro + k * 5, none⟩) rlt).trans y0, (hb.cell (p := ⟨rb, ro + k * 5 + 1, none⟩) rlt).trans y1, (hb.cell (p := ⟨rb, ro + k * 5 + 2, none⟩) rlt).trans y2, (hb.cell (p := ⟨rb, ro + k * 5 + 3, none⟩) rlt).trans y3, (hb.cell (p := ⟨rb, ro + k * 5 + 4, none⟩) rlt).trans y4⟩
      clear x0 x1 x2 x3 x4 y0 y1 y2 y3 y4
      refine wp_region_held_drew (S := (fun w' => w'.cell? ⟨pb, po + k * 5, none⟩ = some (.int .i64 p0) ∧ w'.cell? ⟨pb, po + k * 5 + 1, none⟩ = some (.int .i64 p1) ∧ w'.cell? ⟨pb, po + k * 5 + 2, none⟩ = some (.int .i64 p2) ∧ w'.cell? ⟨pb, po + k * 5 + 3, none⟩ = some (.int .i64 p3) ∧ w'.cell? ⟨pb, po + k * 5 + 4, none⟩ = some (.int .i64 p4) ∧ w'.cell? ⟨rb, ro + k * 5, none⟩ = some (.int .i64 p0) ∧ w'.cell? ⟨rb, ro + k * 5 + 1, none⟩ = some (.int .i64 p1) ∧ w'.cell? ⟨rb, ro + k * 5 + 2, none⟩ = some (.int .i64 p2) ∧ w'.cell? ⟨rb, ro + k * 5 + 3, none⟩ = some (.int .i64 p3) ∧ w'.cell? ⟨rb, ro + k * 5 + 4, none⟩ = some (.int .i64 p4))) (by kernel_rfl) (by exact HS.out _ (Below.refl wr.heap.size wr).drew) (fun hHeld => ?_)
      have hB0 : Below wr.heap.size wr wr.drew := (Below.refl wr.heap.size wr).drew
      generalize hdr : wr.drew = u0 at *
      clear hdr
      refine wpAnyH_take (i := 0) (oi := ⟨some 68, _, _, _, _, _⟩) (v := ?_) rfl (by kernel_rfl) (by kernel_rfl) (by kernel_rfl) (fun _ _ _ h => h) (Or.inl ⟨by kernel_rfl, ?_⟩) (by assumption) ?_
      rotate_left
      · (intro w hSw; (try dsimp only at hSw); go_simp; all_goals with_reducible rfl)
      try simp only [Act.put, List.setIfInBounds_toArray, List.set_cons_zero, List.set_cons_succ]
      refine wpAnyH_take (i := 1) (oi := ⟨some 69, _, _, _, _, _⟩) (v := ?_) rfl (by kernel_rfl) (by kernel_rfl) (by kernel_rfl) (fun _ _ _ h => h) (Or.inl ⟨by kernel_rfl, ?_⟩) (by assumption) ?_
      rotate_left
      · (intro w hSw; (try dsimp only at hSw); go_simp; all_goals with_reducible rfl)
      try simp only [Act.put, List.setIfInBounds_toArray, List.set_cons_zero, List.set_cons_succ]
      refine wpAnyH_take (i := 2) (oi := ⟨some 70, _, _, _, _, _⟩) (v := ?_) rfl (by kernel_rfl) (by kernel_rfl) (by kernel_rfl) (fun _ _ _ h => h) (Or.inl ⟨by kernel_rfl, ?_⟩) (by assumption) ?_
      rotate_left
      · (intro w hSw; (try dsimp only at hSw); go_simp; all_goals with_reducible rfl)
      try simp only [Act.put, List.setIfInBounds_toArray, List.set_cons_zero, List.set_cons_succ]
      refine wpAnyH_take (i := 3) (oi := ⟨some 71, _, _, _, _, _⟩) (v := ?_) rfl (by kernel_rfl) (by kernel_rfl) (by kernel_rfl) (fun _ _ _ h => h) (Or.inl ⟨by kernel_rfl, ?_⟩) (by assumption) ?_
      rotate_left
      · (intro w hSw; (try dsimp only at hSw); go_simp; all_goals with_reducible rfl)
      try simp only [Act.put, List.setIfInBounds_toArray, List.set_cons_zero, List.set_cons_succ]
      refine wpAnyH_take (i := 4) (oi := ⟨some 72, _, _, _, _, _⟩) (v := ?_) rfl (by kernel_rfl) (by kernel_rfl) (by kernel_rfl) (fun _ _ _ h => h) (Or.inl ⟨by kernel_rfl, ?_⟩) (by assumption) ?_
      rotate_left
      · (intro w hSw; (try dsimp only at hSw); go_simp; all_goals with_reducible rfl)
      try simp only [Act.put, List.setIfInBounds_toArray, List.set_cons_zero, List.set_cons_succ]
      refine wpAnyH_take (i := 5) (oi := ⟨some 73, _, _, _, _, _⟩) (v := ?_) rfl (by kernel_rfl) (by kernel_rfl) (by kernel_rfl) (fun _ _ _ h => h) (Or.inl ⟨by kernel_rfl, ?_⟩) (by assumption) ?_
      rotate_left
      · (intro w hSw; (try dsimp only at hSw); go_simp; all_goals with_reducible rfl)
      try simp only [Act.put, List.setIfInBounds_toArray, List.set_cons_zero, List.set_cons_succ]
      refine wpAnyH_take (i := 6) (oi := ⟨some 74, _, _, _, _, _⟩) (v := ?_) rfl (by kernel_rfl) (by kernel_rfl) (by kernel_rfl) (fun _ _ _ h => h) (Or.inl ⟨by kernel_rfl, ?_⟩) (by assumption) ?_
      rotate_left
      · (intro w hSw; (try dsimp only at hSw); go_simp; all_goals with_reducible rfl)
      try simp only [Act.put, List.setIfInBounds_toArray, List.set_cons_zero, List.set_cons_succ]
      refine wpAnyH_take (i := 7) (oi := ⟨some 75, _, _, _, _, _⟩) (v := ?_) rfl (by kernel_rfl) (by kernel_rfl) (by kernel_rfl) (fun _ _ _ h => h) (Or.inl ⟨by kernel_rfl, ?_⟩) (by assumption) ?_
      rotate_left
      · (intro w hSw; (try dsimp only at hSw); go_simp; all_goals with_reducible rfl)
      try simp only [Act.put, List.setIfInBounds_toArray, List.set_cons_zero, List.set_cons_succ]
      refine wpAnyH_take (i := 8) (oi := ⟨some 76, _, _, _, _, _⟩) (v := ?_) rfl (by kernel_rfl) (by kernel_rfl) (by kernel_rfl) (fun _ _ _ h => h) (Or.inl ⟨by kernel_rfl, ?_⟩) (by assumption) ?_
      rotate_left
      · (intro w hSw; (try dsimp only at hSw); go_simp; all_goals with_reducible rfl)
      try simp only [Act.put, List.setIfInBounds_toArray, List.set_cons_zero, List.set_cons_succ]
      refine wpAnyH_take (i := 9) (oi := ⟨some 77, _, _, _, _, _⟩) (v := ?_) rfl (by kernel_rfl) (by kernel_rfl) (by kernel_rfl) (fun _ _ _ h => h) (Or.inl ⟨by kernel_rfl, ?_⟩) (by assumption) ?_
      rotate_left
      · (intro w hSw; (try dsimp only at hSw); go_simp; all_goals with_reducible rfl)
      try simp only [Act.put, List.setIfInBounds_toArray, List.set_cons_zero, List.set_cons_succ]
      refine wpAnyH_take (i := 10) (oi := ⟨some 78, _, _, _, _, _⟩) (v := ?_) rfl (by kernel_rfl) (by kernel_rfl) (by kernel_rfl) (fun _ _ _ h => h) (Or.inl ⟨by kernel_rfl, ?_⟩) (by assumption) ?_
      rotate_left
      · (intro w hSw; (try dsimp only at hSw); go_simp; all_goals with_reducible rfl)
      try simp only [Act.put, List.setIfInBounds_toArray, List.set_cons_zero, List.set_cons_succ]
      refine wpAnyH_take (i := 11) (oi := ⟨some 79, _, _, _, _, _⟩) (v := ?_) rfl (by kernel_rfl) (by kernel_rfl) (by kernel_rfl) (fun _ _ _ h => h) (Or.inl ⟨by kernel_rfl, ?_⟩) (by assumption) ?_
      rotate_left
      · (intro w hSw; (try dsimp only at hSw); go_simp; all_goals with_reducible rfl)
      try simp only [Act.put, List.setIfInBounds_toArray, List.set_cons_zero, List.set_cons_succ]
      refine wpAnyH_take (i := 12) (oi := ⟨some 80, _, _, _, _, _⟩) (v := ?_) rfl (by kernel_rfl) (by kernel_rfl) (by kernel_rfl) (fun _ _ _ h => h) (Or.inl ⟨by kernel_rfl, ?_⟩) (by assumption) ?_
      rotate_left
      · (intro w hSw; (try dsimp only at hSw); go_simp; all_goals with_reducible rfl)
      try simp only [Act.put, List.setIfInBounds_toArray, List.set_cons_zero, List.set_cons_succ]
      refine wpAnyH_take (i := 13) (oi := ⟨some 81, _, _, _, _, _⟩) (v := ?_) rfl (by kernel_rfl) (by kernel_rfl) (by kernel_rfl) (fun _ _ _ h => h) (Or.inl ⟨by kernel_rfl, ?_⟩) (by assumption) ?_
      rotate_left
      · (intro w hSw; (try dsimp only at hSw); go_simp; all_goals with_reducible rfl)
      try simp only [Act.put, List.setIfInBounds_toArray, List.set_cons_zero, List.set_cons_succ]
      refine wpAnyH_take (i := 14) (oi := ⟨some 82, _, _, _, _, _⟩) (v := ?_) rfl (by kernel_rfl) (by kernel_rfl) (by kernel_rfl) (fun _ _ _ h => h) (Or.inl ⟨by kernel_rfl, ?_⟩) (by assumption) ?_
      rotate_left
      · (intro w hSw; (try dsimp only at hSw); go_simp; all_goals with_reducible rfl)
      try simp only [Act.put, List.setIfInBounds_toArray, List.set_cons_zero, List.set_cons_succ]
      refine wpAnyH_take (i := 15) (oi := ⟨some 83, _, _, _, _, _⟩) (v := ?_) rfl (by kernel_rfl) (by kernel_rfl) (by kernel_rfl) (fun _ _ _ h => h) (Or.inl ⟨by kernel_rfl, ?_⟩) (by assumption) ?_
      rotate_left
      · (intro w hSw; (try dsimp only at hSw); go_simp; all_goals with_reducible rfl)
      try simp only [Act.put, List.setIfInBounds_toArray, List.set_cons_zero, List.set_cons_succ]
      refine wpAnyH_take (i := 16) (oi := ⟨some 84, _, _, _, _, _⟩) (v := ?_) rfl (by kernel_rfl) (by kernel_rfl) (by kernel_rfl) (fun _ _ _ h => h) (Or.inl ⟨by kernel_rfl, ?_⟩) (by assumption) ?_
      rotate_left
      · (intro w hSw; (try dsimp only at hSw); go_simp; all_goals with_reducible rfl)
      try simp only [Act.put, List.setIfInBounds_toArray, List.set_cons_zero, List.set_cons_succ]
      refine wpAnyH_take (i := 17) (oi := ⟨some 85, _, _, _, _, _⟩) (v := ?_) rfl (by kernel_rfl) (by kernel_rfl) (by kernel_rfl) (fun _ _ _ h => h) (Or.inl ⟨by kernel_rfl, ?_⟩) (by assumption) ?_
      rotate_left
      · (intro w hSw; (try dsimp only at hSw); go_simp; all_goals with_reducible rfl)
      try simp only [Act.put, List.setIfInBounds_toArray, List.set_cons_zero, List.set_cons_succ]
      refine wpAnyH_take (i := 18) (oi := ⟨some 86, _, _, _, _, _⟩) (v := ?_) rfl (by kernel_rfl) (by kernel_rfl) (by kernel_rfl) (fun _ _ _ h => h) (Or.inl ⟨by kernel_rfl, ?_⟩) (by assumption) ?_
      rotate_left
      · (intro w hSw; (try dsimp only at hSw); go_simp; all_goals with_reducible rfl)
      try simp only [Act.put, List.setIfInBounds_toArray, List.set_cons_zero, List.set_cons_succ]
      refine wpAnyH_take (i := 19) (oi := ⟨some 87, _, _, _, _, _⟩) (v := ?_) rfl (by kernel_rfl) (by kernel_rfl) (by kernel_rfl) (fun _ _ _ h => h) (Or.inl ⟨by kernel_rfl, ?_⟩) (by assumption) ?_
      rotate_left
      · (intro w hSw; (try dsimp only at hSw); go_simp; all_goals with_reducible rfl)
      try simp only [Act.put, List.setIfInBounds_toArray, List.set_cons_zero, List.set_cons_succ]
      refine wpAnyH_take (i := 20) (oi := ⟨some 88, _, _, _, _, _⟩) (v := ?_) rfl (by kernel_rfl) (by kernel_rfl) (by kernel_rfl) (fun _ _ _ h => h) (Or.inl ⟨by kernel_rfl, ?_⟩) (by assumption) ?_
      rotate_left
      · (intro w hSw; (try dsimp only at hSw); go_simp; all_goals with_reducible rfl)
      try simp only [Act.put, List.setIfInBounds_toArray, List.set_cons_zero, List.set_cons_succ]
      refine wpAnyH_take (i := 21) (oi := ⟨some 89, _, _, _, _, _⟩) (v := ?_) rfl (by kernel_rfl) (by kernel_rfl) (by kernel_rfl) (fun _ _ _ h => h) (Or.inl ⟨by kernel_rfl, ?_⟩) (by assumption) ?_
      rotate_left
      · (intro w hSw; (try dsimp only at hSw); go_simp; all_goals with_reducible rfl)
      try simp only [Act.put, List.setIfInBounds_toArray, List.set_cons_zero, List.set_cons_succ]
      refine wpAnyH_take (i := 22) (oi := ⟨some 90, _, _, _, _, _⟩) (v := ?_) rfl (by kernel_rfl) (by kernel_rfl) (by kernel_rfl) (fun _ _ _ h => h) (Or.inl ⟨by kernel_rfl, ?_⟩) (by assumption) ?_
      rotate_left
      · (intro w hSw; (try dsimp only at hSw); go_simp; all_goals with_reducible rfl)
      try simp only [Act.put, List.setIfInBounds_toArray, List.set_cons_zero, List.set_cons_succ]
      refine wpAnyH_ready (rs := [23]) (by kernel_rfl) (by simp) ?_
      refine AllReadyH.cons rfl (fun K hK => ?_) AllReadyH.nil
      go_simp
      refine (CheckLeg_0 p0 p1 p2 p3 p4 _ HLR).mono ?_
      rintro e u1 ⟨rfl, hbu⟩
      have hBu : Below wr.heap.size wr u1 := hB0.trans (hbu.mono hB0.size)
      go_wp2_with fail
      refine hK.out _ _ (by exact HS.out _ hBu) (fun hHeld => ?_)
      clear hK K
      try simp only [Act.put, List.setIfInBounds_toArray, List.set_cons_zero, List.set_cons_succ]
      refine wpAnyH_take (i := 24) (oi := ⟨some 92, _, _, _, _, _⟩) (v := ?_) rfl (by kernel_rfl) (by kernel_rfl) (by kernel_rfl) (fun _ _ _ h => h) (Or.inl ⟨by kernel_rfl, ?_⟩) (by assumption) ?_
      rotate_left
      · (intro w hSw; (try dsimp only at hSw); go_simp; all_goals with_reducible rfl)
      try simp only [Act.put, List.setIfInBounds_toArray, List.set_cons_zero, List.set_cons_succ]
      refine wpAnyH_take (i := 25) (oi := ⟨some 93, _, _, _, _, _⟩) (v := ?_) rfl (by kernel_rfl) (by kernel_rfl) (by kernel_rfl) (fun _ _ _ h => h) (Or.inl ⟨by kernel_rfl, ?_⟩) (by assumption) ?_
      rotate_left
      · (intro w hSw; (try dsimp only at hSw); go_simp; all_goals with_reducible rfl)
      try simp only [Act.put, List.setIfInBounds_toArray, List.set_cons_zero, List.set_cons_succ]
      refine wpAnyH_done (by kernel_rfl) ?_ _
      obtain ⟨x0, x1, x2, x3, x4, _⟩ := HS.out _ hBu
      have hB5 : Below w4.heap.size w4 u1 := hB.trans (hBu.mono sz)
      go_wp2
      go_roundw
      case rel => exact ⟨k + 1, by omega, by go_num, by rw [hdt.out], hB5⟩
      case measure => (simp [intOf]) <;> omega
    · have hkl2 : ¬ (k : Int) < L.length := by omega
      go_wp2
      go_ret
      exact ⟨by first | rfl | simp, hBr⟩
end Go.Proofs.Ytchfhhmmjioajaa
