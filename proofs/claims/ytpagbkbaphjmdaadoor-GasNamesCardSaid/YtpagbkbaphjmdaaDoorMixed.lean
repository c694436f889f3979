/- What gas.Mixed returns. -/
import Derived.Test.YtpagbkbaphjmdaaDoorSums
import Derived.Test.YtpagbkbaphjmdaaDoorLow
import Derived.Outline
namespace Go.Proofs.YtpagbkbaphjmdaaDoor
open Go.ChangeShapes Go.WideShapes Go.ChangeAt Go.RowKit
set_option linter.unusedVariables false

def prt (P : List Part) : Nat → Int
  | 0 => sumF pO P
  | 1 => sumF pH P
  | _ => sumF pN P
def all3 (P : List Part) : Int := 1000 * sumF pA P
def mixN (P : List Part) (i : Nat) : Int := prt P i / gcdI (prt P i) (all3 P)
def mixD (P : List Part) (i : Nat) : Int := all3 P / gcdI (prt P i) (all3 P)
def mixV (P : List Part) (k j : Nat) : Int := if j / 2 < k then (if j % 2 = 0 then mixN P (j / 2) else mixD P (j / 2)) else 0
def mixE (P : List Part) : Int := if checkPartsE P = 0 then (if mixD P 0 ≤ 1000000000 ∧ mixD P 1 ≤ 1000000000 ∧ mixD P 2 ≤ 1000000000 then 0 else 8) else checkPartsE P
def mixR (P : List Part) (j : Nat) : Int := if mixE P = 0 then mixV P 3 j else 0
theorem partsE1_mem {P : List Part} (h : partsE1 P = 0) : ∀ p ∈ P, p.Right := by
  induction P with
  | nil => simp
  | cons p r ih =>
    unfold partsE1 at h
    by_cases hp : partE p = 0
    · rw [if_pos hp] at h
      intro q hq
      rcases List.mem_cons.1 hq with rfl | hq
      · obtain ⟨k1, k2⟩ := firE2_z (show firE [gasE q.o q.h, rngE q.a 0 1000000000] = 0 from hp)
        obtain ⟨g1, g2, g3, g4, g5⟩ := gasE_z k1
        obtain ⟨g6, g7⟩ := rngE_z k2
        exact ⟨g1, g2, g3, g4, g5, g6, g7⟩
      · exact ih h q hq
    · rw [if_neg hp] at h; exact absurd h hp
theorem checkPartsE_z {P : List Part} (h : checkPartsE P = 0) : P.length ≤ 12 ∧ (∀ p ∈ P, p.Right) ∧ noneB P = false := by
  unfold checkPartsE at h
  split at h
  · omega
  · split at h
    · rename_i h1 h2
      refine ⟨by omega, partsE1_mem h2, ?_⟩
      cases hn : noneB P
      · rfl
      · rw [hn] at h; simp at h
    · exact absurd h ‹_›
theorem sumA_pos {P : List Part} (hR : ∀ p ∈ P, p.Right) (hn : noneB P = false) : 0 < sumF pA P := by
  induction P with
  | nil => simp [noneB] at hn
  | cons p r ih =>
    have e : sumF pA (p :: r) = p.a + sumF pA r := by simp [sumF, pA]
    have h1 := (hR p (by simp)).a0
    have h2 := (sumF_bd pA 1000000000 (by omega) r fun q hq => ⟨(hR q (by simp [hq])).a0, (hR q (by simp [hq])).a1⟩).1
    rw [e]
    by_cases hp : p.a = 0
    · have : noneB r = false := by
        unfold noneB at hn ⊢
        simp [hp] at hn ⊢
        exact hn
      have := ih (fun q hq => hR q (by simp [hq])) this
      omega
    · omega
theorem sumA_bd {P : List Part} (hl : P.length ≤ 12) (hR : ∀ p ∈ P, p.Right) : 0 ≤ sumF pA P ∧ sumF pA P ≤ 12000000000 := by
  have := take_bd pA 1000000000 (by omega) P hl (fun p hp => ⟨(hR p hp).a0, (hR p hp).a1⟩) P.length
  rw [List.take_length] at this
  omega
theorem prt_bd {P : List Part} (hl : P.length ≤ 12) (hR : ∀ p ∈ P, p.Right) (i : Nat) : 0 ≤ prt P i ∧ prt P i ≤ 12000000000000 := by
  have h0 := take_bd pO 1000000000000 (by omega) P hl (fun p hp => by have := hR p hp; exact mul_bd this.a0 this.a1 this.o0 this.o1) P.length
  have h1 := take_bd pH 1000000000000 (by omega) P hl (fun p hp => by have := hR p hp; exact mul_bd this.a0 this.a1 this.h0 this.h1) P.length
  have h2 := take_bd pN 1000000000000 (by omega) P hl (fun p hp => by have := hR p hp; have h1 := this.o0; have h2 := this.h0; have h3 := this.s; exact mul_bd this.a0 this.a1 (by omega) (by omega)) P.length
  rw [List.take_length] at h0 h1 h2
  unfold prt
  split <;> omega
set_option maxHeartbeats 1000000 in
theorem Mixed_t1 (P : List Part) (b off cap : Nat) (w : World) (hl : P.length ≤ 1000) (hlt : b < w.heap.size) (hP : PartsAt w b off P) (hb : (checkPartsE P != 0) = true) :
    Calls Tryd.prog 15 #[.slice (some ⟨b, off, none⟩) P.length cap] w fun e w' => e = .returned (.tuple #[.agg #[.int .i64 0, .int .i64 0, .int .i64 0, .int .i64 0, .int .i64 0, .int .i64 0], .int .i64 (checkPartsE P)]) ∧ Below w.heap.size w w' := by
  have HP : Hid (PartsAt w b off P) := hP
  clear hP
  go_enter Tryd.func15, Tryd.ntmps15
  go_wp2_with ((go_at_call 33; ((with_reducible refine (CheckParts_any P b off cap _ hl (by simp; omega) (HP.out.below (by (repeat (first | (with_reducible refine Below.drew ?_) | (with_reducible refine below_drewN ?_ _) | (with_reducible refine Below.alloc ?_ (by first | omega | (simp; done) | (simp; omega) | (simp at *; omega)) _) | (with_reducible refine Below.setCell ?_ (by first | omega | (simp; done) | (simp; omega) | (simp at *; omega)) _) | (with_reducible exact Below.refl _ _) | (with_reducible assumption) | (with_reducible refine Below.trans ?_ (Below.mono (by assumption) (by first | omega | (simp; done) | (simp; omega) | (simp at *; omega))))))) hlt)).mono ?_)); rintro e w1 ⟨rfl, hbw⟩; obtain ⟨hbc, hbf⟩ := bcell hbw; have hbs := hbw.size))
  have c0 : ∀ j, j < 6 → w1.cell? ⟨w.heap.size, j, none⟩ = some (.int .i64 0) := by
    intro j hj
    rw [hbc _ _ (by simp)]
    have hj6 : j = 0 ∨ j = 1 ∨ j = 2 ∨ j = 3 ∨ j = 4 ∨ j = 5 := by omega
    rcases hj6 with rfl | rfl | rfl | rfl | rfl | rfl <;> simp [go_sem]
  have q0 := c0 0 (by omega)
  have q1 := c0 1 (by omega)
  have q2 := c0 2 (by omega)
  have q3 := c0 3 (by omega)
  have q4 := c0 4 (by omega)
  have q5 := c0 5 (by omega)
  clear c0
  refine bodyPost_ret (v := .tuple #[.agg #[.int .i64 0, .int .i64 0, .int .i64 0, .int .i64 0, .int .i64 0, .int .i64 0], .int .i64 (checkPartsE P)]) (by simp [results, Tryd.results15, go_sem, q0, q1, q2, q3, q4, q5]) rfl ⟨rfl, ?_⟩
  (repeat (first | (with_reducible refine Below.drew ?_) | (with_reducible refine below_drewN ?_ _) | (with_reducible refine Below.alloc ?_ (by first | omega | (simp; done) | (simp; omega) | (simp at *; omega)) _) | (with_reducible refine Below.setCell ?_ (by first | omega | (simp; done) | (simp; omega) | (simp at *; omega)) _) | (with_reducible exact Below.refl _ _) | (with_reducible assumption) | (with_reducible refine Below.trans ?_ (Below.mono (by assumption) (by first | omega | (simp; done) | (simp; omega) | (simp at *; omega))))))
set_option maxHeartbeats 2000000 in
theorem Mixed_t2 (P : List Part) (b off cap : Nat) (w : World) (hl : P.length ≤ 1000) (hlt : b < w.heap.size) (hP : PartsAt w b off P) (hb : (checkPartsE P != 0) = false) :
    Calls Tryd.prog 15 #[.slice (some ⟨b, off, none⟩) P.length cap] w fun e w' => e = .returned (.tuple #[.agg #[.int .i64 (mixR P 0), .int .i64 (mixR P 1), .int .i64 (mixR P 2), .int .i64 (mixR P 3), .int .i64 (mixR P 4), .int .i64 (mixR P 5)], .int .i64 (mixE P)]) ∧ Below w.heap.size w w' := by
  have HP : Hid (PartsAt w b off P) := hP
  clear hP
  obtain ⟨l12, hR, hn⟩ := checkPartsE_z (show checkPartsE P = 0 by simpa using hb)
  have A0 := sumA_pos hR hn
  obtain ⟨_, A1⟩ := sumA_bd l12 hR
  have T0 := prt_bd l12 hR 0
  have T1 := prt_bd l12 hR 1
  have T2 := prt_bd l12 hR 2
  have HR : Hid (∀ p ∈ P, p.Right) := hR
  clear hR hn
  have a3 : IntKind.i64.wrap (1000 * sumF pA P) = all3 P := IntWalk.i64_in _ (by omega)
  have a4 : 1000 * sumF pA P = all3 P := rfl
  have a5 : 0 < all3 P := by unfold all3; omega
  have a6 : all3 P ≤ 12000000000000 := by unfold all3; omega
  go_enter Tryd.func15, Tryd.ntmps15
  go_wp2_with ((go_at_call 33; ((with_reducible refine (CheckParts_any P b off cap _ hl (by simp; omega) (HP.out.below (by (repeat (first | (with_reducible refine Below.drew ?_) | (with_reducible refine below_drewN ?_ _) | (with_reducible refine Below.alloc ?_ (by first | omega | (simp; done) | (simp; omega) | (simp at *; omega)) _) | (with_reducible refine Below.setCell ?_ (by first | omega | (simp; done) | (simp; omega) | (simp at *; omega)) _) | (with_reducible exact Below.refl _ _) | (with_reducible assumption) | (with_reducible refine Below.trans ?_ (Below.mono (by assumption) (by first | omega | (simp; done) | (simp; omega) | (simp at *; omega))))))) hlt)).mono ?_)); rintro e w1 ⟨rfl, hbw⟩; obtain ⟨hbc, hbf⟩ := bcell hbw; have hbs := hbw.size))
  simp at hbs
  have hB1 : Below w.heap.size w w1 := (by (repeat (first | (with_reducible refine Below.drew ?_) | (with_reducible refine below_drewN ?_ _) | (with_reducible refine Below.alloc ?_ (by first | omega | (simp; done) | (simp; omega) | (simp at *; omega)) _) | (with_reducible refine Below.setCell ?_ (by first | omega | (simp; done) | (simp; omega) | (simp at *; omega)) _) | (with_reducible exact Below.refl _ _) | (with_reducible assumption) | (with_reducible refine Below.trans ?_ (Below.mono (by assumption) (by first | omega | (simp; done) | (simp; omega) | (simp at *; omega)))))))
  have z1 : ∀ j, j < 6 → w1.cell? ⟨w.heap.size, j, none⟩ = some (.int .i64 0) := by
    intro j hj
    rw [hbc _ _ (by simp)]
    have hj6 : j = 0 ∨ j = 1 ∨ j = 2 ∨ j = 3 ∨ j = 4 ∨ j = 5 := by omega
    rcases hj6 with rfl | rfl | rfl | rfl | rfl | rfl <;> simp [go_sem]
  have f1 : ∀ j, w1.frozen? ⟨w.heap.size, j, none⟩ = false := by
    intro j
    rw [hbf _ _ (by simp)]
    simp [go_sem]
  clear hbc hbf hbw
  go_wp2_with ((go_at_call 34; ((with_reducible refine (sumsOf_any P b off cap _ l12 (by omega) (HP.out.below hB1 hlt) HR.out).mono ?_)); rintro e w2 ⟨rfl, hbw2⟩; obtain ⟨hbc2, hbf2⟩ := bcell hbw2; have hbs2 := hbw2.size))
  have hB2 : Below w.heap.size w w2 := hB1.trans (hbw2.mono (by omega))
  have z2 : ∀ j, j < 6 → w2.cell? ⟨w.heap.size, j, none⟩ = some (.int .i64 0) := by
    intro j hj
    rw [hbc2 _ _ (by omega)]
    exact z1 j hj
  have f2 : ∀ j, w2.frozen? ⟨w.heap.size, j, none⟩ = false := by
    intro j
    rw [hbf2 _ _ (by omega)]
    exact f1 j
  have hs2 : w.heap.size < w2.heap.size := by omega
  clear hbc2 hbf2 hbw2 z1 f1
  have x0 : ∀ w, (Instr.index 76 (.agg #[.int .i64 (sumF pO P), .int .i64 (sumF pH P), .int .i64 (sumF pN P)]) (.int .i64 0)).run Tryd.prog w = .ok (.int .i64 (sumF pO P)) w := fun _ => by kernel_rfl
  have hn0 : sumF pO P / gcdI (sumF pO P) (all3 P) = mixN P 0 := rfl
  have hd0 : all3 P / gcdI (sumF pO P) (all3 P) = mixD P 0 := rfl
  have x1 : ∀ w, (Instr.index 76 (.agg #[.int .i64 (sumF pO P), .int .i64 (sumF pH P), .int .i64 (sumF pN P)]) (.int .i64 1)).run Tryd.prog w = .ok (.int .i64 (sumF pH P)) w := fun _ => by kernel_rfl
  have hn1 : sumF pH P / gcdI (sumF pH P) (all3 P) = mixN P 1 := rfl
  have hd1 : all3 P / gcdI (sumF pH P) (all3 P) = mixD P 1 := rfl
  have x2 : ∀ w, (Instr.index 76 (.agg #[.int .i64 (sumF pO P), .int .i64 (sumF pH P), .int .i64 (sumF pN P)]) (.int .i64 2)).run Tryd.prog w = .ok (.int .i64 (sumF pN P)) w := fun _ => by kernel_rfl
  have hn2 : sumF pN P / gcdI (sumF pN P) (all3 P) = mixN P 2 := rfl
  have hd2 : all3 P / gcdI (sumF pN P) (all3 P) = mixD P 2 := rfl
  have Z2 := Lib.hid z2
  clear z2
  go_loopw [19] (fun i wr => ∃ k : Nat, k ≤ 3 ∧ i = .int .i64 k ∧ Hid (∀ j, j < k → mixD P j ≤ 1000000000) ∧ Below w.heap.size w wr ∧ w2.heap.size + 2 ≤ wr.heap.size ∧ wr.cell? ⟨w2.heap.size, 3, none⟩ = some (.int .i64 (sumF pA P)) ∧ wr.cell? ⟨w2.heap.size + 1, 0, none⟩ = some (.int .i64 (mixV P k 0)) ∧ wr.cell? ⟨w2.heap.size + 1, 1, none⟩ = some (.int .i64 (mixV P k 1)) ∧ wr.cell? ⟨w2.heap.size + 1, 2, none⟩ = some (.int .i64 (mixV P k 2)) ∧ wr.cell? ⟨w2.heap.size + 1, 3, none⟩ = some (.int .i64 (mixV P k 3)) ∧ wr.cell? ⟨w2.heap.size + 1, 4, none⟩ = some (.int .i64 (mixV P k 4)) ∧ wr.cell? ⟨w2.heap.size + 1, 5, none⟩ = some (.int .i64 (mixV P k 5)) ∧ Hid (∀ j, j < 6 → wr.cell? ⟨w.heap.size, j, none⟩ = some (.int .i64 0)) ∧ (∀ j, wr.frozen? ⟨w.heap.size, j, none⟩ = false) ∧ (∀ j, wr.frozen? ⟨w2.heap.size + 1, j, none⟩ = false)) (fun i _ => 3 - (intOf i).toNat)
  case atStart =>
    refine ⟨0, by omega, rfl, fun j hj => by omega, (by (repeat (first | (with_reducible refine Below.drew ?_) | (with_reducible refine below_drewN ?_ _) | (with_reducible refine Below.alloc ?_ (by first | omega | (simp; done) | (simp; omega) | (simp at *; omega)) _) | (with_reducible refine Below.setCell ?_ (by first | omega | (simp; done) | (simp; omega) | (simp at *; omega)) _) | (with_reducible exact Below.refl _ _) | (with_reducible assumption) | (with_reducible refine Below.trans ?_ (Below.mono (by assumption) (by first | omega | (simp; done) | (simp; omega) | (simp at *; omega))))))), by simp, by simp [go_sem, World.cell?_alloc_past], by simp [go_sem, mixV], by simp [go_sem, mixV], by simp [go_sem, mixV], by simp [go_sem, mixV], by simp [go_sem, mixV], by simp [go_sem, mixV], ?_, ?_, by intro j; simp [go_sem]⟩
    · intro j hj
      have := Z2.out j hj
      simp [go_sem, World.cell?_alloc_past, *]
    · intro j; simp [go_sem, *]
  case round =>
    obtain ⟨k, hk, rfl, HD, hB, hsz, ca, v0, v1, v2, v3, v4, v5, HZ, g1, g2⟩ := hrel
    have s1 : w2.heap.size + 1 < wr.heap.size := by omega
    have s2 : w2.heap.size < wr.heap.size := by omega
    have s3 : w.heap.size < wr.heap.size := by omega
    have hk3 : k = 0 ∨ k = 1 ∨ k = 2 ∨ k = 3 := by omega
    rcases hk3 with rfl | rfl | rfl | rfl
    · have hk4 : ((0 : Nat) : Int) = 0 := rfl
      have u0 := prt_bd l12 HR.out 0
      obtain ⟨u0, u1⟩ : 0 ≤ sumF pO P ∧ sumF pO P ≤ 12000000000000 := u0
      by_cases hd : mixD P 0 ≤ 1000000000
      · have HD2 : Hid (∀ j, j < 0 + 1 → mixD P j ≤ 1000000000) := fun j hj => by
          by_cases e : j = 0
          · rw [e]; exact hd
          · exact HD.out j (by omega)
        go_wp2_with ((go_at_call 35; ((with_reducible refine (lowest_any _ _ _ u0 (by omega) a5 (by omega)).mono ?_)); rintro e w3 ⟨rfl, hbw3⟩; obtain ⟨hbc3, hbf3⟩ := bcell hbw3; have hbs3 := hbw3.size))
        go_roundw
        case rel =>
          refine ⟨0 + 1, by omega, by go_num, HD2, (by (repeat (first | (with_reducible refine Below.drew ?_) | (with_reducible refine below_drewN ?_ _) | (with_reducible refine Below.alloc ?_ (by first | omega | (simp; done) | (simp; omega) | (simp at *; omega)) _) | (with_reducible refine Below.setCell ?_ (by first | omega | (simp; done) | (simp; omega) | (simp at *; omega)) _) | (with_reducible exact Below.refl _ _) | (with_reducible assumption) | (with_reducible refine Below.trans ?_ (Below.mono (by assumption) (by first | omega | (simp; done) | (simp; omega) | (simp at *; omega))))))), by simp; omega, ?_, ?_, ?_, ?_, ?_, ?_, ?_, ?_, ?_, ?_⟩
          · simp [go_sem, *]
          all_goals first
            | (simp [go_sem, mixV, *]; done)
            | (intro j hj; have := HZ.out j hj; simp [go_sem, *]; done)
            | (intro j; simp [go_sem, *]; done)
        case measure => simp [intOf]
      · have he : Hid (mixE P = 8) := by
          unfold mixE Hid
          rw [if_pos (by simpa using hb), if_neg (by omega)]
        have hd' : 1000000000 < mixD P 0 := by omega
        clear hd
        have e0 := HZ.out 0 (by omega)
        have e1 := HZ.out 1 (by omega)
        have e2 := HZ.out 2 (by omega)
        have e3 := HZ.out 3 (by omega)
        have e4 := HZ.out 4 (by omega)
        have e5 := HZ.out 5 (by omega)
        go_wp2_with ((go_at_call 35; ((with_reducible refine (lowest_any _ _ _ u0 (by omega) a5 (by omega)).mono ?_)); rintro e w3 ⟨rfl, hbw3⟩; obtain ⟨hbc3, hbf3⟩ := bcell hbw3; have hbs3 := hbw3.size))
        have hr : ∀ j, mixR P j = 0 := fun j => by unfold mixR; rw [he.out]; rfl
        refine bodyPost_ret (v := .tuple #[.agg #[.int .i64 0, .int .i64 0, .int .i64 0, .int .i64 0, .int .i64 0, .int .i64 0], .int .i64 8]) (by simp [results, Tryd.results15, go_sem, *]) rfl ⟨by rw [he.out, hr, hr, hr, hr, hr, hr], ?_⟩
        (repeat (first | (with_reducible refine Below.drew ?_) | (with_reducible refine below_drewN ?_ _) | (with_reducible refine Below.alloc ?_ (by first | omega | (simp; done) | (simp; omega) | (simp at *; omega)) _) | (with_reducible refine Below.setCell ?_ (by first | omega | (simp; done) | (simp; omega) | (simp at *; omega)) _) | (with_reducible exact Below.refl _ _) | (with_reducible assumption) | (with_reducible refine Below.trans ?_ (Below.mono (by assumption) (by first | omega | (simp; done) | (simp; omega) | (simp at *; omega))))))
    · have hk4 : ((0 : Nat) : Int) = 0 := rfl
      have u1 := prt_bd l12 HR.out 1
      obtain ⟨u0, u1⟩ : 0 ≤ sumF pH P ∧ sumF pH P ≤ 12000000000000 := u1
      by_cases hd : mixD P 1 ≤ 1000000000
      · have HD2 : Hid (∀ j, j < 1 + 1 → mixD P j ≤ 1000000000) := fun j hj => by
          by_cases e : j = 1
          · rw [e]; exact hd
          · exact HD.out j (by omega)
        go_wp2_with ((go_at_call 35; ((with_reducible refine (lowest_any _ _ _ u0 (by omega) a5 (by omega)).mono ?_)); rintro e w3 ⟨rfl, hbw3⟩; obtain ⟨hbc3, hbf3⟩ := bcell hbw3; have hbs3 := hbw3.size))
        go_roundw
        case rel =>
          refine ⟨1 + 1, by omega, by go_num, HD2, (by (repeat (first | (with_reducible refine Below.drew ?_) | (with_reducible refine below_drewN ?_ _) | (with_reducible refine Below.alloc ?_ (by first | omega | (simp; done) | (simp; omega) | (simp at *; omega)) _) | (with_reducible refine Below.setCell ?_ (by first | omega | (simp; done) | (simp; omega) | (simp at *; omega)) _) | (with_reducible exact Below.refl _ _) | (with_reducible assumption) | (with_reducible refine Below.trans ?_ (Below.mono (by assumption) (by first | omega | (simp; done) | (simp; omega) | (simp at *; omega))))))), by simp; omega, ?_, ?_, ?_, ?_, ?_, ?_, ?_, ?_, ?_, ?_⟩
          · simp [go_sem, *]
          all_goals first
            | (simp [go_sem, mixV, *]; done)
            | (intro j hj; have := HZ.out j hj; simp [go_sem, *]; done)
            | (intro j; simp [go_sem, *]; done)
        case measure => simp [intOf]
      · have he : Hid (mixE P = 8) := by
          unfold mixE Hid
          rw [if_pos (by simpa using hb), if_neg (by omega)]
        have hd' : 1000000000 < mixD P 1 := by omega
        clear hd
        have e0 := HZ.out 0 (by omega)
        have e1 := HZ.out 1 (by omega)
        have e2 := HZ.out 2 (by omega)
        have e3 := HZ.out 3 (by omega)
        have e4 := HZ.out 4 (by omega)
        have e5 := HZ.out 5 (by omega)
        go_wp2_with ((go_at_call 35; ((with_reducible refine (lowest_any _ _ _ u0 (by omega) a5 (by omega)).mono ?_)); rintro e w3 ⟨rfl, hbw3⟩; obtain ⟨hbc3, hbf3⟩ := bcell hbw3; have hbs3 := hbw3.size))
        have hr : ∀ j, mixR P j = 0 := fun j => by unfold mixR; rw [he.out]; rfl
        refine bodyPost_ret (v := .tuple #[.agg #[.int .i64 0, .int .i64 0, .int .i64 0, .int .i64 0, .int .i64 0, .int .i64 0], .int .i64 8]) (by simp [results, Tryd.results15, go_sem, *]) rfl ⟨by rw [he.out, hr, hr, hr, hr, hr, hr], ?_⟩
        (repeat (first | (with_reducible refine Below.drew ?_) | (with_reducible refine below_drewN ?_ _) | (with_reducible refine Below.alloc ?_ (by first | omega | (simp; done) | (simp; omega) | (simp at *; omega)) _) | (with_reducible refine Below.setCell ?_ (by first | omega | (simp; done) | (simp; omega) | (simp at *; omega)) _) | (with_reducible exact Below.refl _ _) | (with_reducible assumption) | (with_reducible refine Below.trans ?_ (Below.mono (by assumption) (by first | omega | (simp; done) | (simp; omega) | (simp at *; omega))))))
    · have hk4 : ((0 : Nat) : Int) = 0 := rfl
      have u2 := prt_bd l12 HR.out 2
      obtain ⟨u0, u1⟩ : 0 ≤ sumF pN P ∧ sumF pN P ≤ 12000000000000 := u2
      by_cases hd : mixD P 2 ≤ 1000000000
      · have HD2 : Hid (∀ j, j < 2 + 1 → mixD P j ≤ 1000000000) := fun j hj => by
          by_cases e : j = 2
          · rw [e]; exact hd
          · exact HD.out j (by omega)
        go_wp2_with ((go_at_call 35; ((with_reducible refine (lowest_any _ _ _ u0 (by omega) a5 (by omega)).mono ?_)); rintro e w3 ⟨rfl, hbw3⟩; obtain ⟨hbc3, hbf3⟩ := bcell hbw3; have hbs3 := hbw3.size))
        go_roundw
        case rel =>
          refine ⟨2 + 1, by omega, by go_num, HD2, (by (repeat (first | (with_reducible refine Below.drew ?_) | (with_reducible refine below_drewN ?_ _) | (with_reducible refine Below.alloc ?_ (by first | omega | (simp; done) | (simp; omega) | (simp at *; omega)) _) | (with_reducible refine Below.setCell ?_ (by first | omega | (simp; done) | (simp; omega) | (simp at *; omega)) _) | (with_reducible exact Below.refl _ _) | (with_reducible assumption) | (with_reducible refine Below.trans ?_ (Below.mono (by assumption) (by first | omega | (simp; done) | (simp; omega) | (simp at *; omega))))))), by simp; omega, ?_, ?_, ?_, ?_, ?_, ?_, ?_, ?_, ?_, ?_⟩
          · simp [go_sem, *]
          all_goals first
            | (simp [go_sem, mixV, *]; done)
            | (intro j hj; have := HZ.out j hj; simp [go_sem, *]; done)
            | (intro j; simp [go_sem, *]; done)
        case measure => simp [intOf]
      · have he : Hid (mixE P = 8) := by
          unfold mixE Hid
          rw [if_pos (by simpa using hb), if_neg (by omega)]
        have hd' : 1000000000 < mixD P 2 := by omega
        clear hd
        have e0 := HZ.out 0 (by omega)
        have e1 := HZ.out 1 (by omega)
        have e2 := HZ.out 2 (by omega)
        have e3 := HZ.out 3 (by omega)
        have e4 := HZ.out 4 (by omega)
        have e5 := HZ.out 5 (by omega)
        go_wp2_with ((go_at_call 35; ((with_reducible refine (lowest_any _ _ _ u0 (by omega) a5 (by omega)).mono ?_)); rintro e w3 ⟨rfl, hbw3⟩; obtain ⟨hbc3, hbf3⟩ := bcell hbw3; have hbs3 := hbw3.size))
        have hr : ∀ j, mixR P j = 0 := fun j => by unfold mixR; rw [he.out]; rfl
        refine bodyPost_ret (v := .tuple #[.agg #[.int .i64 0, .int .i64 0, .int .i64 0, .int .i64 0, .int .i64 0, .int .i64 0], .int .i64 8]) (by simp [results, Tryd.results15, go_sem, *]) rfl ⟨by rw [he.out, hr, hr, hr, hr, hr, hr], ?_⟩
        (repeat (first | (with_reducible refine Below.drew ?_) | (with_reducible refine below_drewN ?_ _) | (with_reducible refine Below.alloc ?_ (by first | omega | (simp; done) | (simp; omega) | (simp at *; omega)) _) | (with_reducible refine Below.setCell ?_ (by first | omega | (simp; done) | (simp; omega) | (simp at *; omega)) _) | (with_reducible exact Below.refl _ _) | (with_reducible assumption) | (with_reducible refine Below.trans ?_ (Below.mono (by assumption) (by first | omega | (simp; done) | (simp; omega) | (simp at *; omega))))))
    · have he : Hid (mixE P = 0) := by
        unfold mixE Hid
        rw [if_pos (by simpa using hb), if_pos ⟨HD.out 0 (by omega), HD.out 1 (by omega), HD.out 2 (by omega)⟩]
      have e0 := HZ.out 0 (by omega)
      have e1 := HZ.out 1 (by omega)
      have e2 := HZ.out 2 (by omega)
      have e3 := HZ.out 3 (by omega)
      have e4 := HZ.out 4 (by omega)
      have e5 := HZ.out 5 (by omega)
      go_wp2
      have hr : ∀ j, mixR P j = mixV P 3 j := fun j => by unfold mixR; rw [he.out]; rfl
      refine bodyPost_ret (v := .tuple #[.agg #[.int .i64 (mixV P 3 0), .int .i64 (mixV P 3 1), .int .i64 (mixV P 3 2), .int .i64 (mixV P 3 3), .int .i64 (mixV P 3 4), .int .i64 (mixV P 3 5)], .int .i64 0]) (by simp [results, Tryd.results15, go_sem, *]) rfl ⟨by rw [he.out, hr, hr, hr, hr, hr, hr], ?_⟩
      (repeat (first | (with_reducible refine Below.drew ?_) | (with_reducible refine below_drewN ?_ _) | (with_reducible refine Below.alloc ?_ (by first | omega | (simp; done) | (simp; omega) | (simp at *; omega)) _) | (with_reducible refine Below.setCell ?_ (by first | omega | (simp; done) | (simp; omega) | (simp at *; omega)) _) | (with_reducible exact Below.refl _ _) | (with_reducible assumption) | (with_reducible refine Below.trans ?_ (Below.mono (by assumption) (by first | omega | (simp; done) | (simp; omega) | (simp at *; omega))))))
theorem Mixed_any (P : List Part) (b off cap : Nat) (w : World) (hl : P.length ≤ 1000) (hlt : b < w.heap.size) (hP : PartsAt w b off P) :
    Calls Tryd.prog 15 #[.slice (some ⟨b, off, none⟩) P.length cap] w fun e w' => e = .returned (.tuple #[.agg #[.int .i64 (mixR P 0), .int .i64 (mixR P 1), .int .i64 (mixR P 2), .int .i64 (mixR P 3), .int .i64 (mixR P 4), .int .i64 (mixR P 5)], .int .i64 (mixE P)]) ∧ Below w.heap.size w w' := by
  rcases ez (checkPartsE P) with ⟨h, hb⟩ | ⟨h, hb⟩
  · exact Mixed_t2 P b off cap w hl hlt hP hb
  · have he : mixE P = checkPartsE P := if_neg h.out
    have hr : ∀ j, mixR P j = 0 := fun j => by unfold mixR; rw [he, if_neg h.out]
    rw [he, hr, hr, hr, hr, hr, hr]
    exact Mixed_t1 P b off cap w hl hlt hP hb
end Go.Proofs.YtpagbkbaphjmdaaDoor
