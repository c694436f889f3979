import Derived.Test.YtchfhhmmjioajaaZFMKepts
import Derived.Test.YtchfhhmmjioajaaZFTFollC
import Derived.Test.YtchfhhmmjioajaaZFTRefLoadN
import Derived.Outline
namespace Go.Proofs.Ytchfhhmmjioajaa
open Go.ChangeShapes Go.WideShapes Go.ChangeAt Go.RowKit
set_option linter.unusedVariables false
set_option linter.unusedSimpArgs false
attribute [local go_sem ↓] Go.wp_at_zero Go.wp_at_succ
set_option maxRecDepth 100000 in
set_option maxHeartbeats 4000000 in
theorem tissueFollows_dark (T : List Cm) (L : List Ld) (A B : Option Addr) (cap cap' : Nat) (fr tz se o hh fi : Int) (G : List Tl) (C : Option Addr) (capg : Nat) (w : World) (hl : T.length ≤ 9223372036854775807) (hl' : L.length ≤ 9223372036854775807) (hA : A = none → cap = 0) (hB : B = none → cap' = 0) (hT : SlCm w A T) (hL : SlLd w B L) (hlG : G.length ≤ 9223372036854775807) (hC : C = none → capg = 0) (hG : SlTl w C G) (hli : (fewB T.length && decide (L.length ≤ 19)) = false) :
    Calls Try.prog 8 #[.agg #[.slice A T.length cap, .slice B L.length cap', .int .i64 fr, .int .i64 tz, .int .i64 se, .int .i64 o, .int .i64 hh, .int .i64 fi], .slice C G.length capg] w fun e w' => e = .returned (.bool true) ∧ Below w.heap.size w w' := by
  have HT := Lib.hid hT
  have HL := Lib.hid hL
  have HNA := Lib.hid hA
  have HNB := Lib.hid hB
  have HG := Lib.hid hG
  have HNC := Lib.hid hC
  clear hT hL hA hB hG hC
  have HLI := Lib.hid (fun w => light_is T L A B cap cap' fr tz se o hh fi false w hl' (Lib.hid hli))
  clear hli
  go_enter Try.func8, Try.ntmps8
  go_wp2_with fail
  refine (tawake_any _).mono ?_
  rintro e w1 ⟨rfl, hb1⟩
  have za := hb1.size
  try simp at za
  have a0 : w1.cell? ⟨w.heap.size, 0, none⟩ = some (.slice A T.length cap) := (by rw [(bcell hb1).1 _ _ (by first | (simp; done) | (simp; omega) | omega)]; simp [go_sem, World.cell?_alloc_past, *])
  have a1 : w1.cell? ⟨w.heap.size, 1, none⟩ = some (.slice B L.length cap') := (by rw [(bcell hb1).1 _ _ (by first | (simp; done) | (simp; omega) | omega)]; simp [go_sem, World.cell?_alloc_past, *])
  have a2 : w1.cell? ⟨w.heap.size, 2, none⟩ = some (.int .i64 fr) := (by rw [(bcell hb1).1 _ _ (by first | (simp; done) | (simp; omega) | omega)]; simp [go_sem, World.cell?_alloc_past, *])
  have a3 : w1.cell? ⟨w.heap.size, 3, none⟩ = some (.int .i64 tz) := (by rw [(bcell hb1).1 _ _ (by first | (simp; done) | (simp; omega) | omega)]; simp [go_sem, World.cell?_alloc_past, *])
  have a4 : w1.cell? ⟨w.heap.size, 4, none⟩ = some (.int .i64 se) := (by rw [(bcell hb1).1 _ _ (by first | (simp; done) | (simp; omega) | omega)]; simp [go_sem, World.cell?_alloc_past, *])
  have a5 : w1.cell? ⟨w.heap.size, 5, none⟩ = some (.int .i64 o) := (by rw [(bcell hb1).1 _ _ (by first | (simp; done) | (simp; omega) | omega)]; simp [go_sem, World.cell?_alloc_past, *])
  have a6 : w1.cell? ⟨w.heap.size, 6, none⟩ = some (.int .i64 hh) := (by rw [(bcell hb1).1 _ _ (by first | (simp; done) | (simp; omega) | omega)]; simp [go_sem, World.cell?_alloc_past, *])
  have a7 : w1.cell? ⟨w.heap.size, 7, none⟩ = some (.int .i64 fi) := (by rw [(bcell hb1).1 _ _ (by first | (simp; done) | (simp; omega) | omega)]; simp [go_sem, World.cell?_alloc_past, *])
  have aB : Below w.heap.size w w1 := (by (repeat (first | (with_reducible refine Below.drew ?_) | (with_reducible refine below_drewN ?_ _) | (with_reducible refine Below.alloc ?_ (by first | omega | (simp; done) | (simp; omega) | (simp at *; omega)) _) | (with_reducible refine Below.setCell ?_ (by first | omega | (simp; done) | (simp; omega) | (simp at *; omega)) _) | (with_reducible exact Below.refl _ _) | (with_reducible assumption) | (with_reducible refine Below.trans ?_ (Below.mono (by assumption) (by first | omega | (simp; done) | (simp; omega) | (simp at *; omega)))))))
  have ao0 : w.heap.size < w1.heap.size := by omega
  have an0 : w1.heap.size ≠ w.heap.size := by omega
  clear hb1
  go_wp2_with fail
  refine (HLI.out _).mono ?_
  rintro e w2 ⟨rfl, hb2⟩
  have zb := hb2.size
  try simp at zb
  have b0 : w2.cell? ⟨w.heap.size, 0, none⟩ = some (.slice A T.length cap) := (by rw [(bcell hb2).1 _ _ (by first | (simp; done) | (simp; omega) | omega)]; simp [go_sem, World.cell?_alloc_past, *])
  have b1 : w2.cell? ⟨w.heap.size, 1, none⟩ = some (.slice B L.length cap') := (by rw [(bcell hb2).1 _ _ (by first | (simp; done) | (simp; omega) | omega)]; simp [go_sem, World.cell?_alloc_past, *])
  have b2 : w2.cell? ⟨w.heap.size, 2, none⟩ = some (.int .i64 fr) := (by rw [(bcell hb2).1 _ _ (by first | (simp; done) | (simp; omega) | omega)]; simp [go_sem, World.cell?_alloc_past, *])
  have b3 : w2.cell? ⟨w.heap.size, 3, none⟩ = some (.int .i64 tz) := (by rw [(bcell hb2).1 _ _ (by first | (simp; done) | (simp; omega) | omega)]; simp [go_sem, World.cell?_alloc_past, *])
  have b4 : w2.cell? ⟨w.heap.size, 4, none⟩ = some (.int .i64 se) := (by rw [(bcell hb2).1 _ _ (by first | (simp; done) | (simp; omega) | omega)]; simp [go_sem, World.cell?_alloc_past, *])
  have b5 : w2.cell? ⟨w.heap.size, 5, none⟩ = some (.int .i64 o) := (by rw [(bcell hb2).1 _ _ (by first | (simp; done) | (simp; omega) | omega)]; simp [go_sem, World.cell?_alloc_past, *])
  have b6 : w2.cell? ⟨w.heap.size, 6, none⟩ = some (.int .i64 hh) := (by rw [(bcell hb2).1 _ _ (by first | (simp; done) | (simp; omega) | omega)]; simp [go_sem, World.cell?_alloc_past, *])
  have b7 : w2.cell? ⟨w.heap.size, 7, none⟩ = some (.int .i64 fi) := (by rw [(bcell hb2).1 _ _ (by first | (simp; done) | (simp; omega) | omega)]; simp [go_sem, World.cell?_alloc_past, *])
  have bB : Below w.heap.size w w2 := (by (repeat (first | (with_reducible refine Below.drew ?_) | (with_reducible refine below_drewN ?_ _) | (with_reducible refine Below.alloc ?_ (by first | omega | (simp; done) | (simp; omega) | (simp at *; omega)) _) | (with_reducible refine Below.setCell ?_ (by first | omega | (simp; done) | (simp; omega) | (simp at *; omega)) _) | (with_reducible exact Below.refl _ _) | (with_reducible assumption) | (with_reducible refine Below.trans ?_ (Below.mono (by assumption) (by first | omega | (simp; done) | (simp; omega) | (simp at *; omega)))))))
  have bo0 : w.heap.size < w2.heap.size := by omega
  have bn0 : w2.heap.size ≠ w.heap.size := by omega
  clear hb2 a0 a1 a2 a3 a4 a5 a6 a7 aB ao0 an0
  go_wp2
  go_ret
  exact ⟨by first | rfl | simp, bB⟩
set_option maxRecDepth 100000 in
set_option maxHeartbeats 4000000 in
theorem tissueFollows_mid (T : List Cm) (L : List Ld) (A B : Option Addr) (cap cap' : Nat) (fr tz se o hh fi : Int) (G : List Tl) (C : Option Addr) (capg : Nat) (w : World) (hl : T.length ≤ 9223372036854775807) (hl' : L.length ≤ 9223372036854775807) (hA : A = none → cap = 0) (hB : B = none → cap' = 0) (hT : SlCm w A T) (hL : SlLd w B L) (hlG : G.length ≤ 9223372036854775807) (hC : C = none → capg = 0) (hG : SlTl w C G) (hli : (fewB T.length && decide (L.length ≤ 19)) = true) (h5 : 5 < G.length) (h2 : G.length ≤ 200) :
    Calls Try.prog 8 #[.agg #[.slice A T.length cap, .slice B L.length cap', .int .i64 fr, .int .i64 tz, .int .i64 se, .int .i64 o, .int .i64 hh, .int .i64 fi], .slice C G.length capg] w fun e w' => e = .returned (.bool true) ∧ Below w.heap.size w w' := by
  have HT := Lib.hid hT
  have HL := Lib.hid hL
  have HNA := Lib.hid hA
  have HNB := Lib.hid hB
  have HG := Lib.hid hG
  have HNC := Lib.hid hC
  clear hT hL hA hB hG hC
  have HLI := Lib.hid (fun w => light_is T L A B cap cap' fr tz se o hh fi true w hl' (Lib.hid hli))
  clear hli
  have g5 : (5 : Int) < G.length := by omega
  have g2 : (G.length : Int) ≤ 200 := by omega
  go_enter Try.func8, Try.ntmps8
  go_wp2_with fail
  refine (tawake_any _).mono ?_
  rintro e w1 ⟨rfl, hb1⟩
  have za := hb1.size
  try simp at za
  have a0 : w1.cell? ⟨w.heap.size, 0, none⟩ = some (.slice A T.length cap) := (by rw [(bcell hb1).1 _ _ (by first | (simp; done) | (simp; omega) | omega)]; simp [go_sem, World.cell?_alloc_past, *])
  have a1 : w1.cell? ⟨w.heap.size, 1, none⟩ = some (.slice B L.length cap') := (by rw [(bcell hb1).1 _ _ (by first | (simp; done) | (simp; omega) | omega)]; simp [go_sem, World.cell?_alloc_past, *])
  have a2 : w1.cell? ⟨w.heap.size, 2, none⟩ = some (.int .i64 fr) := (by rw [(bcell hb1).1 _ _ (by first | (simp; done) | (simp; omega) | omega)]; simp [go_sem, World.cell?_alloc_past, *])
  have a3 : w1.cell? ⟨w.heap.size, 3, none⟩ = some (.int .i64 tz) := (by rw [(bcell hb1).1 _ _ (by first | (simp; done) | (simp; omega) | omega)]; simp [go_sem, World.cell?_alloc_past, *])
  have a4 : w1.cell? ⟨w.heap.size, 4, none⟩ = some (.int .i64 se) := (by rw [(bcell hb1).1 _ _ (by first | (simp; done) | (simp; omega) | omega)]; simp [go_sem, World.cell?_alloc_past, *])
  have a5 : w1.cell? ⟨w.heap.size, 5, none⟩ = some (.int .i64 o) := (by rw [(bcell hb1).1 _ _ (by first | (simp; done) | (simp; omega) | omega)]; simp [go_sem, World.cell?_alloc_past, *])
  have a6 : w1.cell? ⟨w.heap.size, 6, none⟩ = some (.int .i64 hh) := (by rw [(bcell hb1).1 _ _ (by first | (simp; done) | (simp; omega) | omega)]; simp [go_sem, World.cell?_alloc_past, *])
  have a7 : w1.cell? ⟨w.heap.size, 7, none⟩ = some (.int .i64 fi) := (by rw [(bcell hb1).1 _ _ (by first | (simp; done) | (simp; omega) | omega)]; simp [go_sem, World.cell?_alloc_past, *])
  have aB : Below w.heap.size w w1 := (by (repeat (first | (with_reducible refine Below.drew ?_) | (with_reducible refine below_drewN ?_ _) | (with_reducible refine Below.alloc ?_ (by first | omega | (simp; done) | (simp; omega) | (simp at *; omega)) _) | (with_reducible refine Below.setCell ?_ (by first | omega | (simp; done) | (simp; omega) | (simp at *; omega)) _) | (with_reducible exact Below.refl _ _) | (with_reducible assumption) | (with_reducible refine Below.trans ?_ (Below.mono (by assumption) (by first | omega | (simp; done) | (simp; omega) | (simp at *; omega)))))))
  have ao0 : w.heap.size < w1.heap.size := by omega
  have an0 : w1.heap.size ≠ w.heap.size := by omega
  clear hb1
  go_wp2_with fail
  refine (HLI.out _).mono ?_
  rintro e w2 ⟨rfl, hb2⟩
  have zb := hb2.size
  try simp at zb
  have b0 : w2.cell? ⟨w.heap.size, 0, none⟩ = some (.slice A T.length cap) := (by rw [(bcell hb2).1 _ _ (by first | (simp; done) | (simp; omega) | omega)]; simp [go_sem, World.cell?_alloc_past, *])
  have b1 : w2.cell? ⟨w.heap.size, 1, none⟩ = some (.slice B L.length cap') := (by rw [(bcell hb2).1 _ _ (by first | (simp; done) | (simp; omega) | omega)]; simp [go_sem, World.cell?_alloc_past, *])
  have b2 : w2.cell? ⟨w.heap.size, 2, none⟩ = some (.int .i64 fr) := (by rw [(bcell hb2).1 _ _ (by first | (simp; done) | (simp; omega) | omega)]; simp [go_sem, World.cell?_alloc_past, *])
  have b3 : w2.cell? ⟨w.heap.size, 3, none⟩ = some (.int .i64 tz) := (by rw [(bcell hb2).1 _ _ (by first | (simp; done) | (simp; omega) | omega)]; simp [go_sem, World.cell?_alloc_past, *])
  have b4 : w2.cell? ⟨w.heap.size, 4, none⟩ = some (.int .i64 se) := (by rw [(bcell hb2).1 _ _ (by first | (simp; done) | (simp; omega) | omega)]; simp [go_sem, World.cell?_alloc_past, *])
  have b5 : w2.cell? ⟨w.heap.size, 5, none⟩ = some (.int .i64 o) := (by rw [(bcell hb2).1 _ _ (by first | (simp; done) | (simp; omega) | omega)]; simp [go_sem, World.cell?_alloc_past, *])
  have b6 : w2.cell? ⟨w.heap.size, 6, none⟩ = some (.int .i64 hh) := (by rw [(bcell hb2).1 _ _ (by first | (simp; done) | (simp; omega) | omega)]; simp [go_sem, World.cell?_alloc_past, *])
  have b7 : w2.cell? ⟨w.heap.size, 7, none⟩ = some (.int .i64 fi) := (by rw [(bcell hb2).1 _ _ (by first | (simp; done) | (simp; omega) | omega)]; simp [go_sem, World.cell?_alloc_past, *])
  have bB : Below w.heap.size w w2 := (by (repeat (first | (with_reducible refine Below.drew ?_) | (with_reducible refine below_drewN ?_ _) | (with_reducible refine Below.alloc ?_ (by first | omega | (simp; done) | (simp; omega) | (simp at *; omega)) _) | (with_reducible refine Below.setCell ?_ (by first | omega | (simp; done) | (simp; omega) | (simp at *; omega)) _) | (with_reducible exact Below.refl _ _) | (with_reducible assumption) | (with_reducible refine Below.trans ?_ (Below.mono (by assumption) (by first | omega | (simp; done) | (simp; omega) | (simp at *; omega)))))))
  have bo0 : w.heap.size < w2.heap.size := by omega
  have bn0 : w2.heap.size ≠ w.heap.size := by omega
  clear hb2 a0 a1 a2 a3 a4 a5 a6 a7 aB ao0 an0
  go_wp2
  go_ret
  exact ⟨by first | rfl | simp, bB⟩
set_option maxRecDepth 100000 in
set_option maxHeartbeats 4000000 in
theorem tissueFollows_big (T : List Cm) (L : List Ld) (A B : Option Addr) (cap cap' : Nat) (fr tz se o hh fi : Int) (G : List Tl) (C : Option Addr) (capg : Nat) (w : World) (hl : T.length ≤ 9223372036854775807) (hl' : L.length ≤ 9223372036854775807) (hA : A = none → cap = 0) (hB : B = none → cap' = 0) (hT : SlCm w A T) (hL : SlLd w B L) (hlG : G.length ≤ 9223372036854775807) (hC : C = none → capg = 0) (hG : SlTl w C G) (hli : (fewB T.length && decide (L.length ≤ 19)) = true) (h2 : 202 < G.length) :
    Calls Try.prog 8 #[.agg #[.slice A T.length cap, .slice B L.length cap', .int .i64 fr, .int .i64 tz, .int .i64 se, .int .i64 o, .int .i64 hh, .int .i64 fi], .slice C G.length capg] w fun e w' => e = .returned (.bool true) ∧ Below w.heap.size w w' := by
  have HT := Lib.hid hT
  have HL := Lib.hid hL
  have HNA := Lib.hid hA
  have HNB := Lib.hid hB
  have HG := Lib.hid hG
  have HNC := Lib.hid hC
  clear hT hL hA hB hG hC
  have HLI := Lib.hid (fun w => light_is T L A B cap cap' fr tz se o hh fi true w hl' (Lib.hid hli))
  clear hli
  have g5 : (5 : Int) < G.length := by omega
  have g2 : ¬ (G.length : Int) ≤ 200 := by omega
  have g3 : (202 : Int) < G.length := by omega
  go_enter Try.func8, Try.ntmps8
  go_wp2_with fail
  refine (tawake_any _).mono ?_
  rintro e w1 ⟨rfl, hb1⟩
  have za := hb1.size
  try simp at za
  have a0 : w1.cell? ⟨w.heap.size, 0, none⟩ = some (.slice A T.length cap) := (by rw [(bcell hb1).1 _ _ (by first | (simp; done) | (simp; omega) | omega)]; simp [go_sem, World.cell?_alloc_past, *])
  have a1 : w1.cell? ⟨w.heap.size, 1, none⟩ = some (.slice B L.length cap') := (by rw [(bcell hb1).1 _ _ (by first | (simp; done) | (simp; omega) | omega)]; simp [go_sem, World.cell?_alloc_past, *])
  have a2 : w1.cell? ⟨w.heap.size, 2, none⟩ = some (.int .i64 fr) := (by rw [(bcell hb1).1 _ _ (by first | (simp; done) | (simp; omega) | omega)]; simp [go_sem, World.cell?_alloc_past, *])
  have a3 : w1.cell? ⟨w.heap.size, 3, none⟩ = some (.int .i64 tz) := (by rw [(bcell hb1).1 _ _ (by first | (simp; done) | (simp; omega) | omega)]; simp [go_sem, World.cell?_alloc_past, *])
  have a4 : w1.cell? ⟨w.heap.size, 4, none⟩ = some (.int .i64 se) := (by rw [(bcell hb1).1 _ _ (by first | (simp; done) | (simp; omega) | omega)]; simp [go_sem, World.cell?_alloc_past, *])
  have a5 : w1.cell? ⟨w.heap.size, 5, none⟩ = some (.int .i64 o) := (by rw [(bcell hb1).1 _ _ (by first | (simp; done) | (simp; omega) | omega)]; simp [go_sem, World.cell?_alloc_past, *])
  have a6 : w1.cell? ⟨w.heap.size, 6, none⟩ = some (.int .i64 hh) := (by rw [(bcell hb1).1 _ _ (by first | (simp; done) | (simp; omega) | omega)]; simp [go_sem, World.cell?_alloc_past, *])
  have a7 : w1.cell? ⟨w.heap.size, 7, none⟩ = some (.int .i64 fi) := (by rw [(bcell hb1).1 _ _ (by first | (simp; done) | (simp; omega) | omega)]; simp [go_sem, World.cell?_alloc_past, *])
  have aB : Below w.heap.size w w1 := (by (repeat (first | (with_reducible refine Below.drew ?_) | (with_reducible refine below_drewN ?_ _) | (with_reducible refine Below.alloc ?_ (by first | omega | (simp; done) | (simp; omega) | (simp at *; omega)) _) | (with_reducible refine Below.setCell ?_ (by first | omega | (simp; done) | (simp; omega) | (simp at *; omega)) _) | (with_reducible exact Below.refl _ _) | (with_reducible assumption) | (with_reducible refine Below.trans ?_ (Below.mono (by assumption) (by first | omega | (simp; done) | (simp; omega) | (simp at *; omega)))))))
  have ao0 : w.heap.size < w1.heap.size := by omega
  have an0 : w1.heap.size ≠ w.heap.size := by omega
  clear hb1
  go_wp2_with fail
  refine (HLI.out _).mono ?_
  rintro e w2 ⟨rfl, hb2⟩
  have zb := hb2.size
  try simp at zb
  have b0 : w2.cell? ⟨w.heap.size, 0, none⟩ = some (.slice A T.length cap) := (by rw [(bcell hb2).1 _ _ (by first | (simp; done) | (simp; omega) | omega)]; simp [go_sem, World.cell?_alloc_past, *])
  have b1 : w2.cell? ⟨w.heap.size, 1, none⟩ = some (.slice B L.length cap') := (by rw [(bcell hb2).1 _ _ (by first | (simp; done) | (simp; omega) | omega)]; simp [go_sem, World.cell?_alloc_past, *])
  have b2 : w2.cell? ⟨w.heap.size, 2, none⟩ = some (.int .i64 fr) := (by rw [(bcell hb2).1 _ _ (by first | (simp; done) | (simp; omega) | omega)]; simp [go_sem, World.cell?_alloc_past, *])
  have b3 : w2.cell? ⟨w.heap.size, 3, none⟩ = some (.int .i64 tz) := (by rw [(bcell hb2).1 _ _ (by first | (simp; done) | (simp; omega) | omega)]; simp [go_sem, World.cell?_alloc_past, *])
  have b4 : w2.cell? ⟨w.heap.size, 4, none⟩ = some (.int .i64 se) := (by rw [(bcell hb2).1 _ _ (by first | (simp; done) | (simp; omega) | omega)]; simp [go_sem, World.cell?_alloc_past, *])
  have b5 : w2.cell? ⟨w.heap.size, 5, none⟩ = some (.int .i64 o) := (by rw [(bcell hb2).1 _ _ (by first | (simp; done) | (simp; omega) | omega)]; simp [go_sem, World.cell?_alloc_past, *])
  have b6 : w2.cell? ⟨w.heap.size, 6, none⟩ = some (.int .i64 hh) := (by rw [(bcell hb2).1 _ _ (by first | (simp; done) | (simp; omega) | omega)]; simp [go_sem, World.cell?_alloc_past, *])
  have b7 : w2.cell? ⟨w.heap.size, 7, none⟩ = some (.int .i64 fi) := (by rw [(bcell hb2).1 _ _ (by first | (simp; done) | (simp; omega) | omega)]; simp [go_sem, World.cell?_alloc_past, *])
  have bB : Below w.heap.size w w2 := (by (repeat (first | (with_reducible refine Below.drew ?_) | (with_reducible refine below_drewN ?_ _) | (with_reducible refine Below.alloc ?_ (by first | omega | (simp; done) | (simp; omega) | (simp at *; omega)) _) | (with_reducible refine Below.setCell ?_ (by first | omega | (simp; done) | (simp; omega) | (simp at *; omega)) _) | (with_reducible exact Below.refl _ _) | (with_reducible assumption) | (with_reducible refine Below.trans ?_ (Below.mono (by assumption) (by first | omega | (simp; done) | (simp; omega) | (simp at *; omega)))))))
  have bo0 : w.heap.size < w2.heap.size := by omega
  have bn0 : w2.heap.size ≠ w.heap.size := by omega
  clear hb2 a0 a1 a2 a3 a4 a5 a6 a7 aB ao0 an0
  go_wp2
  go_ret
  exact ⟨by first | rfl | simp, bB⟩
set_option maxRecDepth 100000 in
set_option maxHeartbeats 4000000 in
theorem tissueFollows_bad (T : List Cm) (L : List Ld) (A B : Option Addr) (cap cap' : Nat) (fr tz se o hh fi : Int) (G : List Tl) (C : Option Addr) (capg : Nat) (w : World) (hl : T.length ≤ 9223372036854775807) (hl' : L.length ≤ 9223372036854775807) (hA : A = none → cap = 0) (hB : B = none → cap' = 0) (hT : SlCm w A T) (hL : SlLd w B L) (hlG : G.length ≤ 9223372036854775807) (hC : C = none → capg = 0) (hG : SlTl w C G) (hli : (fewB T.length && decide (L.length ≤ 19)) = true) (hlen : G.length ≤ 5 ∨ (200 < G.length ∧ G.length ≤ 202)) (hz : firE [loadsE T L, clE G, rngE fi 0 6] ≠ 0) :
    Calls Try.prog 8 #[.agg #[.slice A T.length cap, .slice B L.length cap', .int .i64 fr, .int .i64 tz, .int .i64 se, .int .i64 o, .int .i64 hh, .int .i64 fi], .slice C G.length capg] w fun e w' => e = .returned (.bool true) ∧ Below w.heap.size w w' := by
  have HT := Lib.hid hT
  have HL := Lib.hid hL
  have HNA := Lib.hid hA
  have HNB := Lib.hid hB
  have HG := Lib.hid hG
  have HNC := Lib.hid hC
  clear hT hL hA hB hG hC
  have HLI := Lib.hid (fun w => light_is T L A B cap cap' fr tz se o hh fi true w hl' (Lib.hid hli))
  have hlt : T.length ≤ 18 := few_le (by cases h0 : fewB T.length with | true => rfl | false => rw [h0] at hli; simp at hli)
  have hll : L.length ≤ 19 := by cases h0 : fewB T.length with | true => rw [h0] at hli; simpa using hli | false => rw [h0] at hli; simp at hli
  clear hli
  obtain ⟨i0, hi, hz0, hz1, hz2⟩ := info_parts infoTl
  have HIf := Lib.hid hi
  have HZ0 := Lib.hid hz0
  have HZ1 := Lib.hid hz1
  have HZ2 := Lib.hid hz2
  have HTC := Lib.hid (And.intro (tlc_len G) (tlc_one G))
  clear hi hz0 hz1 hz2
  have hg202 : G.length ≤ 202 := by omega
  have hgd : (¬ (5 : Int) < G.length ∧ ¬ (202 : Int) < G.length) ∨ ((5 : Int) < G.length ∧ ¬ (G.length : Int) ≤ 200 ∧ ¬ (202 : Int) < G.length) := by omega
  obtain ⟨q, hq⟩ : ∃ z, Hid (loadsE T L = z) := ⟨_, Lib.hid rfl⟩
  obtain ⟨g, hg⟩ : ∃ z, Hid (clE G = z) := ⟨_, Lib.hid rfl⟩
  obtain ⟨E, hE⟩ : ∃ z, Hid (firE [q, g, rngE fi 0 6] = z) := ⟨_, Lib.hid rfl⟩
  have hzb : (E != 0) = true := by rw [← hE.out, ← hq.out, ← hg.out]; simpa using hz
  have hzc : (E == 0) = false := by rw [← hE.out, ← hq.out, ← hg.out]; simpa using hz
  clear hz
  have HD := Lib.hid hgd
  clear hgd
  go_enter Try.func8, Try.ntmps8
  go_wp2_with fail
  refine (tawake_any _).mono ?_
  rintro e w1 ⟨rfl, hb1⟩
  have za := hb1.size
  try simp at za
  have a0 : w1.cell? ⟨w.heap.size, 0, none⟩ = some (.slice A T.length cap) := (by rw [(bcell hb1).1 _ _ (by first | (simp; done) | (simp; omega) | omega)]; simp [go_sem, World.cell?_alloc_past, *])
  have a1 : w1.cell? ⟨w.heap.size, 1, none⟩ = some (.slice B L.length cap') := (by rw [(bcell hb1).1 _ _ (by first | (simp; done) | (simp; omega) | omega)]; simp [go_sem, World.cell?_alloc_past, *])
  have a2 : w1.cell? ⟨w.heap.size, 2, none⟩ = some (.int .i64 fr) := (by rw [(bcell hb1).1 _ _ (by first | (simp; done) | (simp; omega) | omega)]; simp [go_sem, World.cell?_alloc_past, *])
  have a3 : w1.cell? ⟨w.heap.size, 3, none⟩ = some (.int .i64 tz) := (by rw [(bcell hb1).1 _ _ (by first | (simp; done) | (simp; omega) | omega)]; simp [go_sem, World.cell?_alloc_past, *])
  have a4 : w1.cell? ⟨w.heap.size, 4, none⟩ = some (.int .i64 se) := (by rw [(bcell hb1).1 _ _ (by first | (simp; done) | (simp; omega) | omega)]; simp [go_sem, World.cell?_alloc_past, *])
  have a5 : w1.cell? ⟨w.heap.size, 5, none⟩ = some (.int .i64 o) := (by rw [(bcell hb1).1 _ _ (by first | (simp; done) | (simp; omega) | omega)]; simp [go_sem, World.cell?_alloc_past, *])
  have a6 : w1.cell? ⟨w.heap.size, 6, none⟩ = some (.int .i64 hh) := (by rw [(bcell hb1).1 _ _ (by first | (simp; done) | (simp; omega) | omega)]; simp [go_sem, World.cell?_alloc_past, *])
  have a7 : w1.cell? ⟨w.heap.size, 7, none⟩ = some (.int .i64 fi) := (by rw [(bcell hb1).1 _ _ (by first | (simp; done) | (simp; omega) | omega)]; simp [go_sem, World.cell?_alloc_past, *])
  have aB : Below w.heap.size w w1 := (by (repeat (first | (with_reducible refine Below.drew ?_) | (with_reducible refine below_drewN ?_ _) | (with_reducible refine Below.alloc ?_ (by first | omega | (simp; done) | (simp; omega) | (simp at *; omega)) _) | (with_reducible refine Below.setCell ?_ (by first | omega | (simp; done) | (simp; omega) | (simp at *; omega)) _) | (with_reducible exact Below.refl _ _) | (with_reducible assumption) | (with_reducible refine Below.trans ?_ (Below.mono (by assumption) (by first | omega | (simp; done) | (simp; omega) | (simp at *; omega)))))))
  have ao0 : w.heap.size < w1.heap.size := by omega
  have an0 : w1.heap.size ≠ w.heap.size := by omega
  clear hb1
  go_upto_region 3 with (fail)
  go_cut [32] from 13 (fun s32 wx => s32 = .bool false ∧ Below w1.heap.size w1 wx)
  case first =>
    rcases HD.out with ⟨k1, k2⟩ | ⟨k1, k2, k3⟩
    · go_wp2_with fail
      refine (HLI.out _).mono ?_
      rintro e w2 ⟨rfl, hb2⟩
      go_wp2_with fail
      go_meet
      exact ⟨by first | rfl | (simp; done) | (simp; omega), hb2⟩
    · go_wp2_with fail
      refine (HLI.out _).mono ?_
      rintro e w2 ⟨rfl, hb2⟩
      go_wp2_with fail
      go_meet
      exact ⟨by first | rfl | (simp; done) | (simp; omega), hb2⟩
  case rest =>
  obtain ⟨rfl, hbc⟩ := hcut
  obtain ⟨w2, hw2⟩ : ∃ V, V = wc := ⟨_, rfl⟩
  rw [← hw2] at hbc
  rw [← hw2]
  clear hw2
  have zb := hbc.size
  have b0 := (hbc.cell (p := ⟨w.heap.size, 0, none⟩) ao0).trans a0
  have b1 := (hbc.cell (p := ⟨w.heap.size, 1, none⟩) ao0).trans a1
  have b2 := (hbc.cell (p := ⟨w.heap.size, 2, none⟩) ao0).trans a2
  have b3 := (hbc.cell (p := ⟨w.heap.size, 3, none⟩) ao0).trans a3
  have b4 := (hbc.cell (p := ⟨w.heap.size, 4, none⟩) ao0).trans a4
  have b5 := (hbc.cell (p := ⟨w.heap.size, 5, none⟩) ao0).trans a5
  have b6 := (hbc.cell (p := ⟨w.heap.size, 6, none⟩) ao0).trans a6
  have b7 := (hbc.cell (p := ⟨w.heap.size, 7, none⟩) ao0).trans a7
  have bB : Below w.heap.size w w2 := aB.trans (hbc.mono aB.size)
  have bo0 : w.heap.size < w2.heap.size := by omega
  have bn0 : w2.heap.size ≠ w.heap.size := by omega
  clear hbc a0 a1 a2 a3 a4 a5 a6 a7 aB ao0 an0
  go_upto_region 5 with (fail)
  go_cut [5, 6] from 13 (fun s5 s6 wx => s5 = .slice none 0 0 ∧ s6 = .int .i64 E ∧ Below w2.heap.size w2 wx)
  case first =>
    have HS : ∀ w', Below w2.heap.size w2 w' → w'.cell? ⟨w.heap.size, 0, none⟩ = some (.slice A T.length cap) ∧ w'.cell? ⟨w.heap.size, 1, none⟩ = some (.slice B L.length cap') ∧ w'.cell? ⟨w.heap.size, 7, none⟩ = some (.int .i64 fi) := fun w' hb => ⟨(hb.cell (p := ⟨w.heap.size, 0, none⟩) bo0).trans b0, (hb.cell (p := ⟨w.heap.size, 1, none⟩) bo0).trans b1, (hb.cell (p := ⟨w.heap.size, 7, none⟩) bo0).trans b7⟩
    have HS' := Lib.hid HS
    clear HS
    refine wp_region_held_drew (S := (fun w' => w'.cell? ⟨w.heap.size, 0, none⟩ = some (.slice A T.length cap) ∧ w'.cell? ⟨w.heap.size, 1, none⟩ = some (.slice B L.length cap') ∧ w'.cell? ⟨w.heap.size, 7, none⟩ = some (.int .i64 fi))) (by kernel_rfl) (by exact HS'.out _ (Below.refl w2.heap.size w2).drew) (fun hHeld => ?_)
    refine wpAnyH_take (i := 0) (oi := ⟨some 34, _, _, _, _, _⟩) (v := ?_) rfl (by kernel_rfl) (by kernel_rfl) (by kernel_rfl) (fun _ _ _ h => h) (Or.inl ⟨by kernel_rfl, ?_⟩) (by assumption) ?_
    rotate_left
    · (intro w hSw; (try dsimp only at hSw); go_simp; all_goals with_reducible rfl)
    try simp only [Act.put, List.setIfInBounds_toArray, List.set_cons_zero, List.set_cons_succ]
    refine wpAnyH_take (i := 1) (oi := ⟨some 35, _, _, _, _, _⟩) (v := ?_) rfl (by kernel_rfl) (by kernel_rfl) (by kernel_rfl) (fun _ _ _ h => h) (Or.inl ⟨by kernel_rfl, ?_⟩) (by assumption) ?_
    rotate_left
    · (intro w hSw; (try dsimp only at hSw); go_simp; all_goals with_reducible rfl)
    try simp only [Act.put, List.setIfInBounds_toArray, List.set_cons_zero, List.set_cons_succ]
    refine wpAnyH_take (i := 3) (oi := ⟨some 37, _, _, _, _, _⟩) (v := ?_) rfl (by kernel_rfl) (by kernel_rfl) (by kernel_rfl) (fun _ _ _ h => h) (Or.inl ⟨by kernel_rfl, ?_⟩) (by assumption) ?_
    rotate_left
    · (intro w hSw; (try dsimp only at hSw); go_simp; all_goals with_reducible rfl)
    try simp only [Act.put, List.setIfInBounds_toArray, List.set_cons_zero, List.set_cons_succ]
    refine wpAnyH_take (i := 4) (oi := ⟨some 38, _, _, _, _, _⟩) (v := ?_) rfl (by kernel_rfl) (by kernel_rfl) (by kernel_rfl) (fun _ _ _ h => h) (Or.inl ⟨by kernel_rfl, ?_⟩) (by assumption) ?_
    rotate_left
    · (intro w hSw; (try dsimp only at hSw); go_simp; all_goals with_reducible rfl)
    try simp only [Act.put, List.setIfInBounds_toArray, List.set_cons_zero, List.set_cons_succ]
    refine wpAnyH_take (i := 7) (oi := ⟨some 41, _, _, _, _, _⟩) (v := ?_) rfl (by kernel_rfl) (by kernel_rfl) (by kernel_rfl) (fun _ _ _ h => h) (Or.inl ⟨by kernel_rfl, ?_⟩) (by assumption) ?_
    rotate_left
    · (intro w hSw; (try dsimp only at hSw); go_simp; all_goals with_reducible rfl)
    try simp only [Act.put, List.setIfInBounds_toArray, List.set_cons_zero, List.set_cons_succ]
    refine wpAnyH_take (i := 9) (oi := ⟨some 43, _, _, _, _, _⟩) (v := ?_) rfl (by kernel_rfl) (by kernel_rfl) (by kernel_rfl) (fun _ _ _ h => h) (Or.inl ⟨by kernel_rfl, ?_⟩) (by assumption) ?_
    rotate_left
    · (intro w hSw; (try dsimp only at hSw); go_simp; all_goals with_reducible rfl)
    try simp only [Act.put, List.setIfInBounds_toArray, List.set_cons_zero, List.set_cons_succ]
    refine wpAnyH_take (i := 10) (oi := ⟨some 44, _, _, _, _, _⟩) (v := ?_) rfl (by kernel_rfl) (by kernel_rfl) (by kernel_rfl) (fun _ _ _ h => h) (Or.inl ⟨by kernel_rfl, ?_⟩) (by assumption) ?_
    rotate_left
    · (intro w hSw; (try dsimp only at hSw); go_simp; all_goals with_reducible rfl)
    try simp only [Act.put, List.setIfInBounds_toArray, List.set_cons_zero, List.set_cons_succ]
    have hB0 : Below w2.heap.size w2 w2.drew := (Below.refl w2.heap.size w2).drew
    generalize hdr : w2.drew = u0 at *
    clear hdr
    refine wpAnyH_ready (rs := [2, 6]) (by kernel_rfl) (by simp) ?_
    refine AllReadyH.cons rfl (fun K hK => ?_) (AllReadyH.cons rfl (fun K hK => ?_) (AllReadyH.nil))
    · skip
      go_simp
      refine (lawTable_any T A cap _ (by omega) HNA.out (HT.out.below (bB.trans ((hB0).mono bB.size)))).mono ?_
      rintro e u1 ⟨A2, cap2, rfl, hS, _, hb1⟩
      have HT_1 := Lib.hid hS
      clear hS
      have hB1 : Below w2.heap.size w2 u1 := (hB0).trans (hb1.mono (hB0).size)
      go_wp2_with fail
      refine hK.out _ _ (HS'.out _ hB1) (fun hHeld => ?_)
      clear hK K
      try simp only [Act.put, List.setIfInBounds_toArray, List.set_cons_zero, List.set_cons_succ]
      refine wpAnyH_ready (rs := [5, 6]) (by kernel_rfl) (by simp) ?_
      refine AllReadyH.cons rfl (fun K hK => ?_) (AllReadyH.cons rfl (fun K hK => ?_) (AllReadyH.nil))
      · skip
        go_simp
        refine (lawLoads_any L B cap' _ (by omega) HNB.out (HL.out.below (bB.trans ((hB1).mono bB.size)))).mono ?_
        rintro e u2 ⟨A3, cap3, rfl, hS, _, hb2⟩
        have HL_2 := Lib.hid hS
        clear hS
        have hB2 : Below w2.heap.size w2 u2 := (hB1).trans (hb2.mono (hB1).size)
        have HT_2 := Lib.hid (HT_1.out.below hb2)
        go_wp2_with fail
        refine hK.out _ _ (HS'.out _ hB2) (fun hHeld => ?_)
        clear hK K
        try simp only [Act.put, List.setIfInBounds_toArray, List.set_cons_zero, List.set_cons_succ]
        refine wpAnyH_ready (rs := [6]) (by kernel_rfl) (by simp) ?_
        refine AllReadyH.cons rfl (fun K hK => ?_) (AllReadyH.nil)
        go_simp
        go_wp2_with fail
        refine hK.out _ _ (HS'.out _ ((hB2).alloc (hB2).size _)) (fun hHeld => ?_)
        clear hK K
        try simp only [Act.put, List.setIfInBounds_toArray, List.set_cons_zero, List.set_cons_succ]
        obtain ⟨bz, ebz⟩ : ∃ x, u2.heap.size = x := ⟨_, rfl⟩
        generalize hq3 : u2.alloc (.cells #[] 55) = u3
        have hb3 : Below u2.heap.size u2 u3 := by rw [← hq3]; exact (Below.refl _ _).alloc (Nat.le_refl _) _
        have Z_3 : u3.heap[bz]? = some (.cells #[] 55 (0, 0)) := by rw [← hq3, ← ebz]; exact World.alloc_heap_new _ _
        have l_3 : bz < u3.heap.size := by rw [← hq3, ← ebz]; simp
        have gbz : w2.heap.size ≤ bz := by rw [← ebz]; exact (hB2).size
        have hB3 : Below w2.heap.size w2 u3 := (hB2).trans (hb3.mono (hB2).size)
        rw [ebz]
        have HT_3 := Lib.hid (HT_2.out.below hb3)
        have HL_3 := Lib.hid (HL_2.out.below hb3)
        clear hq3
        refine wpAnyH_ready (rs := [8]) (by kernel_rfl) (by simp) ?_
        refine AllReadyH.cons rfl (fun K hK => ?_) (AllReadyH.nil)
        rw [if_pos (by kernel_rfl)]
        have HOe := Lib.hid (own_empty (base := w2.heap.size) gbz Z_3)
        have HGu : SlTl u3 C G := HG.out.below (bB.trans ((hB3).mono bB.size))
        refine oper_append_slice _ _ 69 rfl w2.heap.size 55 i0 (.agg #[.int .i64 0, .int .i64 0, .int .i64 0, .int .i64 0, .int .i64 0]) 5 40 Try.underlying69 HIf.out HZ0.out HZ1.out HZ2.out rfl (by decide) _ 0 [] rfl HOe.out C G.length capg (tlc G) rfl ?c0 HTC.out.1 ?c1 HTC.out.2 ?c2 ?c3 ?c4 ?_
        case c0 =>
          intro hc
          refine ⟨?_, HNC.out hc⟩
          rcases HGu with hg | ⟨_, _, hg, _⟩
          · rw [hg]; rfl
          · rw [hc] at hg; cases hg
        case c1 =>
          intro ad had j u hj
          rcases HGu with hg | ⟨gb, go', hg, hlt, hgl⟩
          · rw [hg] at hj; simp [tlc] at hj
          · rw [hg] at had; cases had; exact tlc_cells hgl j u hj
        case c2 => unfold maxLen; omega
        case c3 => omega
        case c4 => exact (hB3).size
        intro v' u4 hown hgrow
        try simp only [Nat.zero_add, List.nil_append] at hown
        have hB4 : Below w2.heap.size w2 u4 := (hB3).grown hgrow (hB3).size (fun r hr => by have h9 : bz = r := Option.some.inj hr; omega)
        obtain ⟨A4, cap4, rfl, hS4, _⟩ := SlTl_own hown
        have HG_4 := Lib.hid hS4
        have HT_4 := Lib.hid (HT_3.out.grown Z_3 hgrow)
        have HL_4 := Lib.hid (HL_3.out.grown Z_3 hgrow)
        clear hown hgrow hS4 HOe HGu
        refine hK.out _ _ (HS'.out _ hB4) (fun hHeld => ?_)
        clear hK K
        try simp only [Act.put, List.setIfInBounds_toArray, List.set_cons_zero, List.set_cons_succ]
        refine wpAnyH_ready (rs := [11]) (by kernel_rfl) (by simp) ?_
        refine AllReadyH.cons rfl (fun K hK => ?_) (AllReadyH.nil)
        go_simp
        refine (Followed_bad T L G A2 A3 A4 cap2 cap3 cap4 fi q g E _ (by omega) (by omega) (by omega) hq hg hE hzb HT_4.out HL_4.out HG_4.out).mono ?_
        rintro e u5 ⟨rfl, hb5⟩
        have hB5 : Below w2.heap.size w2 u5 := (hB4).trans (hb5.mono (hB4).size)
        go_wp2_with fail
        refine hK.out _ _ (HS'.out _ hB5) (fun hHeld => ?_)
        clear hK K
        try simp only [Act.put, List.setIfInBounds_toArray, List.set_cons_zero, List.set_cons_succ]
        refine wpAnyH_take (i := 12) (oi := ⟨some 33, _, _, _, _, _⟩) (v := ?_) rfl (by kernel_rfl) (by kernel_rfl) (by kernel_rfl) (fun _ _ _ h => h) (Or.inl ⟨by kernel_rfl, ?_⟩) (by assumption) ?_
        rotate_left
        · (intro w hSw; (try dsimp only at hSw); go_simp; all_goals with_reducible rfl)
        try simp only [Act.put, List.setIfInBounds_toArray, List.set_cons_zero, List.set_cons_succ]
        refine wpAnyH_take (i := 13) (oi := ⟨some 46, _, _, _, _, _⟩) (v := ?_) rfl (by kernel_rfl) (by kernel_rfl) (by kernel_rfl) (fun _ _ _ h => h) (Or.inl ⟨by kernel_rfl, ?_⟩) (by assumption) ?_
        rotate_left
        · (intro w hSw; (try dsimp only at hSw); go_simp; all_goals with_reducible rfl)
        try simp only [Act.put, List.setIfInBounds_toArray, List.set_cons_zero, List.set_cons_succ]
        refine wpAnyH_take (i := 14) (oi := ⟨some 47, _, _, _, _, _⟩) (v := ?_) rfl (by kernel_rfl) (by kernel_rfl) (by kernel_rfl) (fun _ _ _ h => h) (Or.inl ⟨by kernel_rfl, ?_⟩) (by assumption) ?_
        rotate_left
        · (intro w hSw; (try dsimp only at hSw); go_simp; all_goals with_reducible rfl)
        try simp only [Act.put, List.setIfInBounds_toArray, List.set_cons_zero, List.set_cons_succ]
        refine wpAnyH_take (i := 15) (oi := ⟨some 5, _, _, _, _, _⟩) (v := ?_) rfl (by kernel_rfl) (by kernel_rfl) (by kernel_rfl) (fun _ _ _ h => h) (Or.inl ⟨by kernel_rfl, ?_⟩) (by assumption) ?_
        rotate_left
        · (intro w hSw; (try dsimp only at hSw); go_simp; all_goals with_reducible rfl)
        try simp only [Act.put, List.setIfInBounds_toArray, List.set_cons_zero, List.set_cons_succ]
        refine wpAnyH_take (i := 16) (oi := ⟨some 6, _, _, _, _, _⟩) (v := ?_) rfl (by kernel_rfl) (by kernel_rfl) (by kernel_rfl) (fun _ _ _ h => h) (Or.inl ⟨by kernel_rfl, ?_⟩) (by assumption) ?_
        rotate_left
        · (intro w hSw; (try dsimp only at hSw); go_simp; all_goals with_reducible rfl)
        try simp only [Act.put, List.setIfInBounds_toArray, List.set_cons_zero, List.set_cons_succ]
        refine wpAnyH_done (by kernel_rfl) ?_ _
        go_wp2_with fail
        go_meet
        exact ⟨rfl, rfl, hB5⟩
      · skip
        go_simp
        go_wp2_with fail
        refine hK.out _ _ (HS'.out _ ((hB1).alloc (hB1).size _)) (fun hHeld => ?_)
        clear hK K
        try simp only [Act.put, List.setIfInBounds_toArray, List.set_cons_zero, List.set_cons_succ]
        obtain ⟨bz, ebz⟩ : ∃ x, u1.heap.size = x := ⟨_, rfl⟩
        generalize hq2 : u1.alloc (.cells #[] 55) = u2
        have hb2 : Below u1.heap.size u1 u2 := by rw [← hq2]; exact (Below.refl _ _).alloc (Nat.le_refl _) _
        have Z_2 : u2.heap[bz]? = some (.cells #[] 55 (0, 0)) := by rw [← hq2, ← ebz]; exact World.alloc_heap_new _ _
        have l_2 : bz < u2.heap.size := by rw [← hq2, ← ebz]; simp
        have gbz : w2.heap.size ≤ bz := by rw [← ebz]; exact (hB1).size
        have hB2 : Below w2.heap.size w2 u2 := (hB1).trans (hb2.mono (hB1).size)
        rw [ebz]
        have HT_2 := Lib.hid (HT_1.out.below hb2)
        clear hq2
        refine wpAnyH_ready (rs := [5]) (by kernel_rfl) (by simp) ?_
        refine AllReadyH.cons rfl (fun K hK => ?_) (AllReadyH.nil)
        go_simp
        refine (lawLoads_any L B cap' _ (by omega) HNB.out (HL.out.below (bB.trans ((hB2).mono bB.size)))).mono ?_
        rintro e u3 ⟨A3, cap3, rfl, hS, _, hb3⟩
        have HL_3 := Lib.hid hS
        clear hS
        have hB3 : Below w2.heap.size w2 u3 := (hB2).trans (hb3.mono (hB2).size)
        have HT_3 := Lib.hid (HT_2.out.below hb3)
        have Z_3 : u3.heap[bz]? = some (.cells #[] 55 (0, 0)) := (hb3.block bz l_2).trans Z_2
        have l_3 : bz < u3.heap.size := Nat.lt_of_lt_of_le l_2 hb3.size
        go_wp2_with fail
        refine hK.out _ _ (HS'.out _ hB3) (fun hHeld => ?_)
        clear hK K
        try simp only [Act.put, List.setIfInBounds_toArray, List.set_cons_zero, List.set_cons_succ]
        refine wpAnyH_ready (rs := [8]) (by kernel_rfl) (by simp) ?_
        refine AllReadyH.cons rfl (fun K hK => ?_) (AllReadyH.nil)
        rw [if_pos (by kernel_rfl)]
        have HOe := Lib.hid (own_empty (base := w2.heap.size) gbz Z_3)
        have HGu : SlTl u3 C G := HG.out.below (bB.trans ((hB3).mono bB.size))
        refine oper_append_slice _ _ 69 rfl w2.heap.size 55 i0 (.agg #[.int .i64 0, .int .i64 0, .int .i64 0, .int .i64 0, .int .i64 0]) 5 40 Try.underlying69 HIf.out HZ0.out HZ1.out HZ2.out rfl (by decide) _ 0 [] rfl HOe.out C G.length capg (tlc G) rfl ?c0 HTC.out.1 ?c1 HTC.out.2 ?c2 ?c3 ?c4 ?_
        case c0 =>
          intro hc
          refine ⟨?_, HNC.out hc⟩
          rcases HGu with hg | ⟨_, _, hg, _⟩
          · rw [hg]; rfl
          · rw [hc] at hg; cases hg
        case c1 =>
          intro ad had j u hj
          rcases HGu with hg | ⟨gb, go', hg, hlt, hgl⟩
          · rw [hg] at hj; simp [tlc] at hj
          · rw [hg] at had; cases had; exact tlc_cells hgl j u hj
        case c2 => unfold maxLen; omega
        case c3 => omega
        case c4 => exact (hB3).size
        intro v' u4 hown hgrow
        try simp only [Nat.zero_add, List.nil_append] at hown
        have hB4 : Below w2.heap.size w2 u4 := (hB3).grown hgrow (hB3).size (fun r hr => by have h9 : bz = r := Option.some.inj hr; omega)
        obtain ⟨A4, cap4, rfl, hS4, _⟩ := SlTl_own hown
        have HG_4 := Lib.hid hS4
        have HT_4 := Lib.hid (HT_3.out.grown Z_3 hgrow)
        have HL_4 := Lib.hid (HL_3.out.grown Z_3 hgrow)
        clear hown hgrow hS4 HOe HGu
        refine hK.out _ _ (HS'.out _ hB4) (fun hHeld => ?_)
        clear hK K
        try simp only [Act.put, List.setIfInBounds_toArray, List.set_cons_zero, List.set_cons_succ]
        refine wpAnyH_ready (rs := [11]) (by kernel_rfl) (by simp) ?_
        refine AllReadyH.cons rfl (fun K hK => ?_) (AllReadyH.nil)
        go_simp
        refine (Followed_bad T L G A2 A3 A4 cap2 cap3 cap4 fi q g E _ (by omega) (by omega) (by omega) hq hg hE hzb HT_4.out HL_4.out HG_4.out).mono ?_
        rintro e u5 ⟨rfl, hb5⟩
        have hB5 : Below w2.heap.size w2 u5 := (hB4).trans (hb5.mono (hB4).size)
        go_wp2_with fail
        refine hK.out _ _ (HS'.out _ hB5) (fun hHeld => ?_)
        clear hK K
        try simp only [Act.put, List.setIfInBounds_toArray, List.set_cons_zero, List.set_cons_succ]
        refine wpAnyH_take (i := 12) (oi := ⟨some 33, _, _, _, _, _⟩) (v := ?_) rfl (by kernel_rfl) (by kernel_rfl) (by kernel_rfl) (fun _ _ _ h => h) (Or.inl ⟨by kernel_rfl, ?_⟩) (by assumption) ?_
        rotate_left
        · (intro w hSw; (try dsimp only at hSw); go_simp; all_goals with_reducible rfl)
        try simp only [Act.put, List.setIfInBounds_toArray, List.set_cons_zero, List.set_cons_succ]
        refine wpAnyH_take (i := 13) (oi := ⟨some 46, _, _, _, _, _⟩) (v := ?_) rfl (by kernel_rfl) (by kernel_rfl) (by kernel_rfl) (fun _ _ _ h => h) (Or.inl ⟨by kernel_rfl, ?_⟩) (by assumption) ?_
        rotate_left
        · (intro w hSw; (try dsimp only at hSw); go_simp; all_goals with_reducible rfl)
        try simp only [Act.put, List.setIfInBounds_toArray, List.set_cons_zero, List.set_cons_succ]
        refine wpAnyH_take (i := 14) (oi := ⟨some 47, _, _, _, _, _⟩) (v := ?_) rfl (by kernel_rfl) (by kernel_rfl) (by kernel_rfl) (fun _ _ _ h => h) (Or.inl ⟨by kernel_rfl, ?_⟩) (by assumption) ?_
        rotate_left
        · (intro w hSw; (try dsimp only at hSw); go_simp; all_goals with_reducible rfl)
        try simp only [Act.put, List.setIfInBounds_toArray, List.set_cons_zero, List.set_cons_succ]
        refine wpAnyH_take (i := 15) (oi := ⟨some 5, _, _, _, _, _⟩) (v := ?_) rfl (by kernel_rfl) (by kernel_rfl) (by kernel_rfl) (fun _ _ _ h => h) (Or.inl ⟨by kernel_rfl, ?_⟩) (by assumption) ?_
        rotate_left
        · (intro w hSw; (try dsimp only at hSw); go_simp; all_goals with_reducible rfl)
        try simp only [Act.put, List.setIfInBounds_toArray, List.set_cons_zero, List.set_cons_succ]
        refine wpAnyH_take (i := 16) (oi := ⟨some 6, _, _, _, _, _⟩) (v := ?_) rfl (by kernel_rfl) (by kernel_rfl) (by kernel_rfl) (fun _ _ _ h => h) (Or.inl ⟨by kernel_rfl, ?_⟩) (by assumption) ?_
        rotate_left
        · (intro w hSw; (try dsimp only at hSw); go_simp; all_goals with_reducible rfl)
        try simp only [Act.put, List.setIfInBounds_toArray, List.set_cons_zero, List.set_cons_succ]
        refine wpAnyH_done (by kernel_rfl) ?_ _
        go_wp2_with fail
        go_meet
        exact ⟨rfl, rfl, hB5⟩
    · skip
      go_simp
      go_wp2_with fail
      refine hK.out _ _ (HS'.out _ ((hB0).alloc (hB0).size _)) (fun hHeld => ?_)
      clear hK K
      try simp only [Act.put, List.setIfInBounds_toArray, List.set_cons_zero, List.set_cons_succ]
      obtain ⟨bz, ebz⟩ : ∃ x, u0.heap.size = x := ⟨_, rfl⟩
      generalize hq1 : u0.alloc (.cells #[] 55) = u1
      have hb1 : Below u0.heap.size u0 u1 := by rw [← hq1]; exact (Below.refl _ _).alloc (Nat.le_refl _) _
      have Z_1 : u1.heap[bz]? = some (.cells #[] 55 (0, 0)) := by rw [← hq1, ← ebz]; exact World.alloc_heap_new _ _
      have l_1 : bz < u1.heap.size := by rw [← hq1, ← ebz]; simp
      have gbz : w2.heap.size ≤ bz := by rw [← ebz]; exact (hB0).size
      have hB1 : Below w2.heap.size w2 u1 := (hB0).trans (hb1.mono (hB0).size)
      rw [ebz]
      clear hq1
      refine wpAnyH_ready (rs := [2]) (by kernel_rfl) (by simp) ?_
      refine AllReadyH.cons rfl (fun K hK => ?_) (AllReadyH.nil)
      go_simp
      refine (lawTable_any T A cap _ (by omega) HNA.out (HT.out.below (bB.trans ((hB1).mono bB.size)))).mono ?_
      rintro e u2 ⟨A2, cap2, rfl, hS, _, hb2⟩
      have HT_2 := Lib.hid hS
      clear hS
      have hB2 : Below w2.heap.size w2 u2 := (hB1).trans (hb2.mono (hB1).size)
      have Z_2 : u2.heap[bz]? = some (.cells #[] 55 (0, 0)) := (hb2.block bz l_1).trans Z_1
      have l_2 : bz < u2.heap.size := Nat.lt_of_lt_of_le l_1 hb2.size
      go_wp2_with fail
      refine hK.out _ _ (HS'.out _ hB2) (fun hHeld => ?_)
      clear hK K
      try simp only [Act.put, List.setIfInBounds_toArray, List.set_cons_zero, List.set_cons_succ]
      refine wpAnyH_ready (rs := [5]) (by kernel_rfl) (by simp) ?_
      refine AllReadyH.cons rfl (fun K hK => ?_) (AllReadyH.nil)
      go_simp
      refine (lawLoads_any L B cap' _ (by omega) HNB.out (HL.out.below (bB.trans ((hB2).mono bB.size)))).mono ?_
      rintro e u3 ⟨A3, cap3, rfl, hS, _, hb3⟩
      have HL_3 := Lib.hid hS
      clear hS
      have hB3 : Below w2.heap.size w2 u3 := (hB2).trans (hb3.mono (hB2).size)
      have HT_3 := Lib.hid (HT_2.out.below hb3)
      have Z_3 : u3.heap[bz]? = some (.cells #[] 55 (0, 0)) := (hb3.block bz l_2).trans Z_2
      have l_3 : bz < u3.heap.size := Nat.lt_of_lt_of_le l_2 hb3.size
      go_wp2_with fail
      refine hK.out _ _ (HS'.out _ hB3) (fun hHeld => ?_)
      clear hK K
      try simp only [Act.put, List.setIfInBounds_toArray, List.set_cons_zero, List.set_cons_succ]
      refine wpAnyH_ready (rs := [8]) (by kernel_rfl) (by simp) ?_
      refine AllReadyH.cons rfl (fun K hK => ?_) (AllReadyH.nil)
      rw [if_pos (by kernel_rfl)]
      have HOe := Lib.hid (own_empty (base := w2.heap.size) gbz Z_3)
      have HGu : SlTl u3 C G := HG.out.below (bB.trans ((hB3).mono bB.size))
      refine oper_append_slice _ _ 69 rfl w2.heap.size 55 i0 (.agg #[.int .i64 0, .int .i64 0, .int .i64 0, .int .i64 0, .int .i64 0]) 5 40 Try.underlying69 HIf.out HZ0.out HZ1.out HZ2.out rfl (by decide) _ 0 [] rfl HOe.out C G.length capg (tlc G) rfl ?c0 HTC.out.1 ?c1 HTC.out.2 ?c2 ?c3 ?c4 ?_
      case c0 =>
        intro hc
        refine ⟨?_, HNC.out hc⟩
        rcases HGu with hg | ⟨_, _, hg, _⟩
        · rw [hg]; rfl
        · rw [hc] at hg; cases hg
      case c1 =>
        intro ad had j u hj
        rcases HGu with hg | ⟨gb, go', hg, hlt, hgl⟩
        · rw [hg] at hj; simp [tlc] at hj
        · rw [hg] at had; cases had; exact tlc_cells hgl j u hj
      case c2 => unfold maxLen; omega
      case c3 => omega
      case c4 => exact (hB3).size
      intro v' u4 hown hgrow
      try simp only [Nat.zero_add, List.nil_append] at hown
      have hB4 : Below w2.heap.size w2 u4 := (hB3).grown hgrow (hB3).size (fun r hr => by have h9 : bz = r := Option.some.inj hr; omega)
      obtain ⟨A4, cap4, rfl, hS4, _⟩ := SlTl_own hown
      have HG_4 := Lib.hid hS4
      have HT_4 := Lib.hid (HT_3.out.grown Z_3 hgrow)
      have HL_4 := Lib.hid (HL_3.out.grown Z_3 hgrow)
      clear hown hgrow hS4 HOe HGu
      refine hK.out _ _ (HS'.out _ hB4) (fun hHeld => ?_)
      clear hK K
      try simp only [Act.put, List.setIfInBounds_toArray, List.set_cons_zero, List.set_cons_succ]
      refine wpAnyH_ready (rs := [11]) (by kernel_rfl) (by simp) ?_
      refine AllReadyH.cons rfl (fun K hK => ?_) (AllReadyH.nil)
      go_simp
      refine (Followed_bad T L G A2 A3 A4 cap2 cap3 cap4 fi q g E _ (by omega) (by omega) (by omega) hq hg hE hzb HT_4.out HL_4.out HG_4.out).mono ?_
      rintro e u5 ⟨rfl, hb5⟩
      have hB5 : Below w2.heap.size w2 u5 := (hB4).trans (hb5.mono (hB4).size)
      go_wp2_with fail
      refine hK.out _ _ (HS'.out _ hB5) (fun hHeld => ?_)
      clear hK K
      try simp only [Act.put, List.setIfInBounds_toArray, List.set_cons_zero, List.set_cons_succ]
      refine wpAnyH_take (i := 12) (oi := ⟨some 33, _, _, _, _, _⟩) (v := ?_) rfl (by kernel_rfl) (by kernel_rfl) (by kernel_rfl) (fun _ _ _ h => h) (Or.inl ⟨by kernel_rfl, ?_⟩) (by assumption) ?_
      rotate_left
      · (intro w hSw; (try dsimp only at hSw); go_simp; all_goals with_reducible rfl)
      try simp only [Act.put, List.setIfInBounds_toArray, List.set_cons_zero, List.set_cons_succ]
      refine wpAnyH_take (i := 13) (oi := ⟨some 46, _, _, _, _, _⟩) (v := ?_) rfl (by kernel_rfl) (by kernel_rfl) (by kernel_rfl) (fun _ _ _ h => h) (Or.inl ⟨by kernel_rfl, ?_⟩) (by assumption) ?_
      rotate_left
      · (intro w hSw; (try dsimp only at hSw); go_simp; all_goals with_reducible rfl)
      try simp only [Act.put, List.setIfInBounds_toArray, List.set_cons_zero, List.set_cons_succ]
      refine wpAnyH_take (i := 14) (oi := ⟨some 47, _, _, _, _, _⟩) (v := ?_) rfl (by kernel_rfl) (by kernel_rfl) (by kernel_rfl) (fun _ _ _ h => h) (Or.inl ⟨by kernel_rfl, ?_⟩) (by assumption) ?_
      rotate_left
      · (intro w hSw; (try dsimp only at hSw); go_simp; all_goals with_reducible rfl)
      try simp only [Act.put, List.setIfInBounds_toArray, List.set_cons_zero, List.set_cons_succ]
      refine wpAnyH_take (i := 15) (oi := ⟨some 5, _, _, _, _, _⟩) (v := ?_) rfl (by kernel_rfl) (by kernel_rfl) (by kernel_rfl) (fun _ _ _ h => h) (Or.inl ⟨by kernel_rfl, ?_⟩) (by assumption) ?_
      rotate_left
      · (intro w hSw; (try dsimp only at hSw); go_simp; all_goals with_reducible rfl)
      try simp only [Act.put, List.setIfInBounds_toArray, List.set_cons_zero, List.set_cons_succ]
      refine wpAnyH_take (i := 16) (oi := ⟨some 6, _, _, _, _, _⟩) (v := ?_) rfl (by kernel_rfl) (by kernel_rfl) (by kernel_rfl) (fun _ _ _ h => h) (Or.inl ⟨by kernel_rfl, ?_⟩) (by assumption) ?_
      rotate_left
      · (intro w hSw; (try dsimp only at hSw); go_simp; all_goals with_reducible rfl)
      try simp only [Act.put, List.setIfInBounds_toArray, List.set_cons_zero, List.set_cons_succ]
      refine wpAnyH_done (by kernel_rfl) ?_ _
      go_wp2_with fail
      go_meet
      exact ⟨rfl, rfl, hB5⟩
  case rest =>
  obtain ⟨rfl, rfl, hbc⟩ := hcut
  obtain ⟨w3, hw3⟩ : ∃ V, V = wc := ⟨_, rfl⟩
  rw [← hw3] at hbc
  rw [← hw3]
  clear hw3
  have zc := hbc.size
  have c0 := (hbc.cell (p := ⟨w.heap.size, 0, none⟩) bo0).trans b0
  have c1 := (hbc.cell (p := ⟨w.heap.size, 1, none⟩) bo0).trans b1
  have c2 := (hbc.cell (p := ⟨w.heap.size, 2, none⟩) bo0).trans b2
  have c3 := (hbc.cell (p := ⟨w.heap.size, 3, none⟩) bo0).trans b3
  have c4 := (hbc.cell (p := ⟨w.heap.size, 4, none⟩) bo0).trans b4
  have c5 := (hbc.cell (p := ⟨w.heap.size, 5, none⟩) bo0).trans b5
  have c6 := (hbc.cell (p := ⟨w.heap.size, 6, none⟩) bo0).trans b6
  have c7 := (hbc.cell (p := ⟨w.heap.size, 7, none⟩) bo0).trans b7
  have cB : Below w.heap.size w w3 := bB.trans (hbc.mono bB.size)
  have co0 : w.heap.size < w3.heap.size := by omega
  have cn0 : w3.heap.size ≠ w.heap.size := by omega
  clear hbc b0 b1 b2 b3 b4 b5 b6 b7 bB bo0 bn0
  go_wp2_with fail
  refine (refCheckLoads_is T L A B cap cap' q _ hl hl' hq (HT.out.below (by exact (by (repeat (first | (with_reducible refine Below.drew ?_) | (with_reducible refine below_drewN ?_ _) | (with_reducible refine Below.alloc ?_ (by first | omega | (simp; done) | (simp; omega) | (simp at *; omega)) _) | (with_reducible refine Below.setCell ?_ (by first | omega | (simp; done) | (simp; omega) | (simp at *; omega)) _) | (with_reducible exact Below.refl _ _) | (with_reducible assumption) | (with_reducible refine Below.trans ?_ (Below.mono (by assumption) (by first | omega | (simp; done) | (simp; omega) | (simp at *; omega))))))))) (HL.out.below (by exact (by (repeat (first | (with_reducible refine Below.drew ?_) | (with_reducible refine below_drewN ?_ _) | (with_reducible refine Below.alloc ?_ (by first | omega | (simp; done) | (simp; omega) | (simp at *; omega)) _) | (with_reducible refine Below.setCell ?_ (by first | omega | (simp; done) | (simp; omega) | (simp at *; omega)) _) | (with_reducible exact Below.refl _ _) | (with_reducible assumption) | (with_reducible refine Below.trans ?_ (Below.mono (by assumption) (by first | omega | (simp; done) | (simp; omega) | (simp at *; omega)))))))))).mono ?_
  rintro e w4 ⟨rfl, hb4⟩
  have zd := hb4.size
  try simp at zd
  have d0 : w4.cell? ⟨w.heap.size, 0, none⟩ = some (.slice A T.length cap) := (by rw [(bcell hb4).1 _ _ (by first | (simp; done) | (simp; omega) | omega)]; simp [go_sem, World.cell?_alloc_past, *])
  have d1 : w4.cell? ⟨w.heap.size, 1, none⟩ = some (.slice B L.length cap') := (by rw [(bcell hb4).1 _ _ (by first | (simp; done) | (simp; omega) | omega)]; simp [go_sem, World.cell?_alloc_past, *])
  have d2 : w4.cell? ⟨w.heap.size, 2, none⟩ = some (.int .i64 fr) := (by rw [(bcell hb4).1 _ _ (by first | (simp; done) | (simp; omega) | omega)]; simp [go_sem, World.cell?_alloc_past, *])
  have d3 : w4.cell? ⟨w.heap.size, 3, none⟩ = some (.int .i64 tz) := (by rw [(bcell hb4).1 _ _ (by first | (simp; done) | (simp; omega) | omega)]; simp [go_sem, World.cell?_alloc_past, *])
  have d4 : w4.cell? ⟨w.heap.size, 4, none⟩ = some (.int .i64 se) := (by rw [(bcell hb4).1 _ _ (by first | (simp; done) | (simp; omega) | omega)]; simp [go_sem, World.cell?_alloc_past, *])
  have d5 : w4.cell? ⟨w.heap.size, 5, none⟩ = some (.int .i64 o) := (by rw [(bcell hb4).1 _ _ (by first | (simp; done) | (simp; omega) | omega)]; simp [go_sem, World.cell?_alloc_past, *])
  have d6 : w4.cell? ⟨w.heap.size, 6, none⟩ = some (.int .i64 hh) := (by rw [(bcell hb4).1 _ _ (by first | (simp; done) | (simp; omega) | omega)]; simp [go_sem, World.cell?_alloc_past, *])
  have d7 : w4.cell? ⟨w.heap.size, 7, none⟩ = some (.int .i64 fi) := (by rw [(bcell hb4).1 _ _ (by first | (simp; done) | (simp; omega) | omega)]; simp [go_sem, World.cell?_alloc_past, *])
  have dB : Below w.heap.size w w4 := (by (repeat (first | (with_reducible refine Below.drew ?_) | (with_reducible refine below_drewN ?_ _) | (with_reducible refine Below.alloc ?_ (by first | omega | (simp; done) | (simp; omega) | (simp at *; omega)) _) | (with_reducible refine Below.setCell ?_ (by first | omega | (simp; done) | (simp; omega) | (simp at *; omega)) _) | (with_reducible exact Below.refl _ _) | (with_reducible assumption) | (with_reducible refine Below.trans ?_ (Below.mono (by assumption) (by first | omega | (simp; done) | (simp; omega) | (simp at *; omega)))))))
  have do0 : w.heap.size < w4.heap.size := by omega
  have dn0 : w4.heap.size ≠ w.heap.size := by omega
  clear hb4 c0 c1 c2 c3 c4 c5 c6 c7 cB co0 cn0
  by_cases hq0 : q = 0
  rotate_left
  · have hEv : E = q := by rw [← hE.out]; unfold firE; rw [if_neg hq0]
    have q2 : (q == 0) = false := by simpa using hq0
    subst hEv
    clear hq0 hE
    by_cases hg0 : (0 : Int) < G.length
    · go_wp2_with fail
      refine wp_loop_rounds 1 ?_
      rw [rounds_succ]
      go_wp2
      go_ret
      exact ⟨by first | rfl | simp, dB⟩
    · go_wp2_with fail
      refine wp_loop_rounds 1 ?_
      rw [rounds_succ]
      go_wp2
      go_ret
      exact ⟨by first | rfl | simp, dB⟩
  subst hq0
  by_cases h200 : 200 < G.length
  · have g200 : (200 : Int) < G.length := by omega
    have g0 : (0 : Int) < G.length := by omega
    have hEv : E = 8 := by rw [← hE.out, ← hg.out, clE, if_pos h200]; rfl
    subst hEv
    clear hE
    go_wp2_with fail
    refine wp_loop_rounds 1 ?_
    rw [rounds_succ]
    go_wp2
    go_ret
    exact ⟨by first | rfl | simp, dB⟩
  have g200 : ¬ (200 : Int) < G.length := by omega
  have hgg : Hid (g = fstE tlE G) := Lib.hid (by rw [← hg.out, clE, if_neg h200])
  have HE := Lib.hid (And.intro d7 (And.intro dB (And.intro do0 dn0)))
  clear h200 d0 d1 d2 d3 d4 d5 d6 d7 dB do0 dn0
  go_upto_block 0 with (fail)
  go_cut [7, 8] from 60 to 74 (fun s7 s8 wx => s7 = .int .i64 g ∧ Below w4.heap.size w4 wx)
  case first =>
    go_wp2_with fail
    go_loopw [7, 8] (fun c i wr => ∃ (k : Nat) (x : Int), k ≤ G.length ∧ i = .int .i64 k ∧ c = .int .i64 x ∧ Hid ((x = 0 ∧ ∀ j, (hj : j < k) → (hj' : j < G.length) → tlE G[j] = 0) ∨ (x ≠ 0 ∧ g = x)) ∧ Below w4.heap.size w4 wr) (fun _ i _ => G.length - (intOf i).toNat)
    case atStart => exact ⟨0, 0, by omega, rfl, rfl, Or.inl ⟨rfl, fun j hj => by omega⟩, Below.refl _ _⟩
    case round =>
      obtain ⟨k, x, hk, rfl, rfl, hx, hB⟩ := hrel
      rcases hx.out with ⟨h0, hz⟩ | ⟨hn, hpost⟩
      · subst h0
        have HZ := Lib.hid hz
        clear hx hz
        by_cases hkl : k < G.length
        · have hkl2 : (k : Int) < G.length := by omega
          rcases (HG.out.below (HE.out.2.1.trans (hB.mono HE.out.2.1.size)) : SlTl wr C G) with hnil | ⟨pb, po, hCC, plt, PL⟩
          · rw [hnil] at hkl; simp at hkl
          subst hCC
          obtain ⟨c0, c1, c2, c3, c4⟩ := PL k hkl
          obtain ⟨r, hr⟩ : ∃ r, Hid (legE G[k].f G[k].t G[k].s G[k].o G[k].h = r) := ⟨_, Lib.hid rfl⟩
          obtain ⟨p0, hp0⟩ : ∃ x, Hid (G[k].f = x) := ⟨_, Lib.hid rfl⟩
          obtain ⟨p1, hp1⟩ : ∃ x, Hid (G[k].t = x) := ⟨_, Lib.hid rfl⟩
          obtain ⟨p2, hp2⟩ : ∃ x, Hid (G[k].s = x) := ⟨_, Lib.hid rfl⟩
          obtain ⟨p3, hp3⟩ : ∃ x, Hid (G[k].o = x) := ⟨_, Lib.hid rfl⟩
          obtain ⟨p4, hp4⟩ : ∃ x, Hid (G[k].h = x) := ⟨_, Lib.hid rfl⟩
          have hl9 : Hid (tlE G[k] = r) := hr
          rw [hp0.out, hp1.out, hp2.out, hp3.out, hp4.out] at hr
          rw [hp0.out] at c0; rw [hp1.out] at c1; rw [hp2.out] at c2; rw [hp3.out] at c3; rw [hp4.out] at c4
          clear PL hp0 hp1 hp2 hp3 hp4
          go_wp2_with fail
          refine (refCheckLeg_is p0 p1 p2 p3 p4 r _ hr).mono ?_
          rintro e w9 ⟨rfl, hb9⟩
          have hB9 : Below w4.heap.size w4 w9 := hB.trans (hb9.mono hB.size)
          clear hb9 hB c0 c1 c2 c3 c4
          go_wp2
          go_roundw
          case rel =>
            refine ⟨k + 1, r, by omega, by go_num, rfl, ?_, hB9⟩
            by_cases hr0 : r = 0
            · exact Or.inl ⟨hr0, fun j hj hj' => by
                by_cases e : j = k
                · subst e; rw [hl9.out, hr0]
                · exact HZ.out j (by omega) hj'⟩
            · exact Or.inr ⟨hr0, by rw [hgg.out, fstE_at hkl (fun j hj => HZ.out j hj (by omega)) (by rw [hl9.out]; exact hr0), hl9.out]⟩
          case measure => simp [intOf]; omega
        · have hz0 : fstE tlE G = 0 := fstE_z fun j hj => HZ.out j (by omega) hj
          have HF := Lib.hid (show g = 0 by rw [hgg.out, hz0])
          have hkl2 : ¬ (k : Int) < G.length := by omega
          clear hz0 HZ hkl
          go_wp2_with fail
          go_meet
          exact ⟨by rw [HF.out], hB⟩
      · have hn2 : (x == 0) = false := by simpa using hn
        have HPost := Lib.hid hpost
        clear hx hpost hn
        by_cases hkl : (k : Int) < G.length
        · go_wp2_with fail
          go_meet
          exact ⟨by rw [HPost.out], hB⟩
        · go_wp2_with fail
          go_meet
          exact ⟨by rw [HPost.out], hB⟩
  case rest =>
  obtain ⟨rfl, hbc⟩ := hcut
  obtain ⟨w5, hw5⟩ : ∃ V, V = wc := ⟨_, rfl⟩
  rw [← hw5] at hbc
  rw [← hw5]
  have f7 := (hbc.cell (p := ⟨w.heap.size, 7, none⟩) HE.out.2.2.1).trans HE.out.1
  have fB : Below w.heap.size w w5 := HE.out.2.1.trans (hbc.mono HE.out.2.1.size)
  clear hw5 hbc HE
  by_cases hg0 : g = 0
  rotate_left
  · have hEv : E = g := by rw [← hE.out]; simp [firE, hg0]
    have q2 : (g == 0) = false := by simpa using hg0
    subst hEv
    clear hg0 hE
    go_wp2
    go_ret
    exact ⟨by first | rfl | simp, fB⟩
  subst hg0
  rcases inB_cases fi 0 6 with hf | hf
  · exfalso
    have : E = 0 := by rw [← hE.out, rngE_t hf]; rfl
    rw [this] at hzb
    simp at hzb
  have HIF := Lib.hid (fun w => isFine_is fi false w (Lib.hid hf))
  have hEv : E = 2 := by rw [← hE.out, rngE_f hf]; rfl
  subst hEv
  clear hE hf
  go_wp2_with ((go_at_call 38; ((with_reducible refine (HIF.out _).mono ?_)); rintro e w' ⟨rfl, rfl⟩))
  go_ret
  exact ⟨by first | rfl | simp, fB⟩
end Go.Proofs.Ytchfhhmmjioajaa
