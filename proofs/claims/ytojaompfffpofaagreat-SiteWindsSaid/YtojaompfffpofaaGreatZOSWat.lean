import Derived.Test.YtojaompfffpofaaGreatZOSWnd
import Derived.Test.YtojaompfffpofaaGreatZOSRoot
import Derived.Outline
namespace Go.Proofs.YtojaompfffpofaaGreat
open Go.ChangeShapes Go.WideShapes Go.ChangeAt Go.RowKit
set_option linter.unusedVariables false
set_option linter.unusedSimpArgs false
attribute [local go_sem ↓] Go.wp_at_zero Go.wp_at_succ
/-- How many of the first n winds have begun at a minute: the last begun one's number. -/
def begU (L : List Wi) (m : Int) : Nat → Nat
  | 0 => 0
  | k + 1 => if (L.getD k default).f ≤ m then k + 1 else begU L m k
theorem begU_le (L : List Wi) (m : Int) : ∀ n, begU L m n ≤ n
  | 0 => Nat.le_refl 0
  | k + 1 => by rw [begU]; split; · exact Nat.le_refl _
                · exact Nat.le_succ_of_le (begU_le L m k)
theorem begU_hi {L : List Wi} {m : Int} : ∀ {n i : Nat}, begU L m n ≤ i → i < n → m < (L.getD i default).f
  | 0, i, _, h => by omega
  | k + 1, i, h, hi => by
    rw [begU] at h
    split at h
    · omega
    · rename_i hk
      by_cases e : i = k
      · subst e; omega
      · exact begU_hi h (by omega)
theorem wf_mono {L : List Wi} {N : Nat} (hs : ∀ k, k + 1 < N → (L.getD k default).f < (L.getD (k + 1) default).f) : ∀ j i, i ≤ j → j < N → (L.getD i default).f ≤ (L.getD j default).f
  | 0, i, h, _ => by have : i = 0 := by omega
                     subst this; exact Int.le_refl _
  | j + 1, i, h, hj => by
    by_cases e : i = j + 1
    · subst e; exact Int.le_refl _
    · have h1 := wf_mono hs j i (by omega) (by omega)
      have h2 := hs j hj
      omega
theorem begU_lo {L : List Wi} {m : Int} {N : Nat} (hs : ∀ k, k + 1 < N → (L.getD k default).f < (L.getD (k + 1) default).f) : ∀ {n i : Nat}, n ≤ N → i < begU L m n → (L.getD i default).f ≤ m
  | 0, i, _, h => by rw [begU] at h; omega
  | k + 1, i, hn, h => by
    rw [begU] at h
    split at h
    · rename_i hk
      have := wf_mono hs k i (by omega) (by omega)
      omega
    · exact begU_lo hs (by omega) h
/-- The wind at a minute and its error: of n winds that ascend. -/
def atW (L : List Wi) (m : Int) (n : Nat) : Wi := if begU L m n = 0 then ⟨0, 0, 0⟩ else L.getD (begU L m n - 1) default
def atE (L : List Wi) (m : Int) (n : Nat) : Int := if begU L m n = 0 then 19 else 0
set_option maxRecDepth 100000 in
set_option maxHeartbeats 2000000 in
theorem windC_is (L : List Wi) (A : Option Addr) (n cap i b1 b2 : Nat) (m : Int) (p : Bool) (w : World) (hn : Hid (n = L.length)) (h1 : w.cell? ⟨b1, 0, none⟩ = some (.slice A n cap)) (h2 : w.cell? ⟨b2, 0, none⟩ = some (.int .i64 m)) (HL : Hid (SlRows wiV 3 w A L)) (hi : i < n) (n1 : n ≤ 1000000) (hp : Hid (decide (m < (L.getD i default).f) = p)) :
    Calls Tryz.prog 123 #[.int .i64 i, .pointer (some ⟨b1, 0, none⟩), .pointer (some ⟨b2, 0, none⟩)] w fun e w' => e = .returned (.bool p) ∧ Below w.heap.size w w' := by
  have hil : i < L.length := by have := hn.out; omega
  have iN : (i : Int) < (n : Int) := by omega
  rcases HL.out with h0 | ⟨bl, off, rfl, hlt, hR⟩
  · rw [h0] at hil; simp at hil
  obtain ⟨d0, _, _⟩ := wi_at hR hil
  obtain ⟨f, hf⟩ : ∃ f, Hid ((L.getD i default).f = f) := ⟨_, Lib.hid rfl⟩
  rw [hf.out] at d0
  clear hR
  cases p with
  | true =>
    have hh : m < f := by have := hp.out; rw [hf.out] at this; simpa using this
    have j0 : decide (m < f) = true := by simpa using hh
    clear hp hf
    go_enter Tryz.func123, Tryz.ntmps123
    go_upto_region 1 with (fail)
    refine wp_region_held_drew (S := (fun w' => w'.cell? ⟨b1, 0, none⟩ = some (.slice (some ⟨bl, off, none⟩) n cap) ∧ w'.cell? ⟨b2, 0, none⟩ = some (.int .i64 m) ∧ w'.cell? ⟨bl, off + i * 3, none⟩ = some (.int .i64 f))) (by kernel_rfl) (by simp [go_sem, World.cell?_alloc_past, *]) (fun hHeld => ?_)
    refine tkH 0 ⟨some 5, _, _, _, _, _⟩ ?_ rfl ?_ (by assumption) ?_
    rotate_left
    · (intro w hSw; (try dsimp only at hSw); go_simp; all_goals with_reducible rfl)
    try simp only [Act.put, sA, sB, sC]
    refine tkH 1 ⟨some 6, _, _, _, _, _⟩ ?_ rfl ?_ (by assumption) ?_
    rotate_left
    · (intro w hSw; (try dsimp only at hSw); go_simp; all_goals with_reducible rfl)
    try simp only [Act.put, sA, sB, sC]
    refine tkH 2 ⟨some 7, _, _, _, _, _⟩ ?_ rfl ?_ (by assumption) ?_
    rotate_left
    · (intro w hSw; (try dsimp only at hSw); go_simp; all_goals with_reducible rfl)
    try simp only [Act.put, sA, sB, sC]
    refine tkH 3 ⟨some 8, _, _, _, _, _⟩ ?_ rfl ?_ (by assumption) ?_
    rotate_left
    · (intro w hSw; (try dsimp only at hSw); go_simp; all_goals with_reducible rfl)
    try simp only [Act.put, sA, sB, sC]
    refine tkH 4 ⟨some 9, _, _, _, _, _⟩ ?_ rfl ?_ (by assumption) ?_
    rotate_left
    · (intro w hSw; (try dsimp only at hSw); go_simp; all_goals with_reducible rfl)
    try simp only [Act.put, sA, sB, sC]
    refine tkH 5 ⟨some 10, _, _, _, _, _⟩ ?_ rfl ?_ (by assumption) ?_
    rotate_left
    · (intro w hSw; (try dsimp only at hSw); go_simp; all_goals with_reducible rfl)
    try simp only [Act.put, sA, sB, sC]
    refine tkH 6 ⟨some 11, _, _, _, _, _⟩ ?_ rfl ?_ (by assumption) ?_
    rotate_left
    · (intro w hSw; (try dsimp only at hSw); go_simp; all_goals with_reducible rfl)
    try simp only [Act.put, sA, sB, sC]
    refine tkH 7 ⟨some 4, _, _, _, _, _⟩ ?_ rfl ?_ (by assumption) ?_
    rotate_left
    · (intro w hSw; (try dsimp only at hSw); go_simp; all_goals with_reducible rfl)
    try simp only [Act.put, sA, sB, sC]
    refine wpAnyH_done (by kernel_rfl) ?_ _
    go_wp2
    go_ret
    exact ⟨rfl, (by (repeat (first | (with_reducible refine Below.drew ?_) | (with_reducible refine below_drewN ?_ _) | (with_reducible refine Below.alloc ?_ (by first | omega | (simp; done) | (simp; omega) | (simp at *; omega)) _) | (with_reducible refine Below.setCell ?_ (by first | omega | (simp; done) | (simp; omega) | (simp at *; omega)) _) | (with_reducible exact Below.refl _ _) | (with_reducible assumption) | (with_reducible refine Below.trans ?_ (Below.mono (by assumption) (by first | omega | (simp; done) | (simp; omega) | (simp at *; omega)))))))⟩
  | false =>
    have hh : ¬ m < f := by have := hp.out; rw [hf.out] at this; simpa using this
    have j0 : decide (m < f) = false := by simpa using hh
    clear hp hf
    go_enter Tryz.func123, Tryz.ntmps123
    go_upto_region 1 with (fail)
    refine wp_region_held_drew (S := (fun w' => w'.cell? ⟨b1, 0, none⟩ = some (.slice (some ⟨bl, off, none⟩) n cap) ∧ w'.cell? ⟨b2, 0, none⟩ = some (.int .i64 m) ∧ w'.cell? ⟨bl, off + i * 3, none⟩ = some (.int .i64 f))) (by kernel_rfl) (by simp [go_sem, World.cell?_alloc_past, *]) (fun hHeld => ?_)
    refine tkH 0 ⟨some 5, _, _, _, _, _⟩ ?_ rfl ?_ (by assumption) ?_
    rotate_left
    · (intro w hSw; (try dsimp only at hSw); go_simp; all_goals with_reducible rfl)
    try simp only [Act.put, sA, sB, sC]
    refine tkH 1 ⟨some 6, _, _, _, _, _⟩ ?_ rfl ?_ (by assumption) ?_
    rotate_left
    · (intro w hSw; (try dsimp only at hSw); go_simp; all_goals with_reducible rfl)
    try simp only [Act.put, sA, sB, sC]
    refine tkH 2 ⟨some 7, _, _, _, _, _⟩ ?_ rfl ?_ (by assumption) ?_
    rotate_left
    · (intro w hSw; (try dsimp only at hSw); go_simp; all_goals with_reducible rfl)
    try simp only [Act.put, sA, sB, sC]
    refine tkH 3 ⟨some 8, _, _, _, _, _⟩ ?_ rfl ?_ (by assumption) ?_
    rotate_left
    · (intro w hSw; (try dsimp only at hSw); go_simp; all_goals with_reducible rfl)
    try simp only [Act.put, sA, sB, sC]
    refine tkH 4 ⟨some 9, _, _, _, _, _⟩ ?_ rfl ?_ (by assumption) ?_
    rotate_left
    · (intro w hSw; (try dsimp only at hSw); go_simp; all_goals with_reducible rfl)
    try simp only [Act.put, sA, sB, sC]
    refine tkH 5 ⟨some 10, _, _, _, _, _⟩ ?_ rfl ?_ (by assumption) ?_
    rotate_left
    · (intro w hSw; (try dsimp only at hSw); go_simp; all_goals with_reducible rfl)
    try simp only [Act.put, sA, sB, sC]
    refine tkH 6 ⟨some 11, _, _, _, _, _⟩ ?_ rfl ?_ (by assumption) ?_
    rotate_left
    · (intro w hSw; (try dsimp only at hSw); go_simp; all_goals with_reducible rfl)
    try simp only [Act.put, sA, sB, sC]
    refine tkH 7 ⟨some 4, _, _, _, _, _⟩ ?_ rfl ?_ (by assumption) ?_
    rotate_left
    · (intro w hSw; (try dsimp only at hSw); go_simp; all_goals with_reducible rfl)
    try simp only [Act.put, sA, sB, sC]
    refine wpAnyH_done (by kernel_rfl) ?_ _
    go_wp2
    go_ret
    exact ⟨rfl, (by (repeat (first | (with_reducible refine Below.drew ?_) | (with_reducible refine below_drewN ?_ _) | (with_reducible refine Below.alloc ?_ (by first | omega | (simp; done) | (simp; omega) | (simp at *; omega)) _) | (with_reducible refine Below.setCell ?_ (by first | omega | (simp; done) | (simp; omega) | (simp at *; omega)) _) | (with_reducible exact Below.refl _ _) | (with_reducible assumption) | (with_reducible refine Below.trans ?_ (Below.mono (by assumption) (by first | omega | (simp; done) | (simp; omega) | (simp at *; omega)))))))⟩
set_option maxHeartbeats 1000000 in
set_option maxRecDepth 100000 in
theorem searchW (N t b1 b2 : Nat) (p : Nat → Bool) (w : World) (hN : N ≤ 1000000000) (ht : t ≤ N) (hlo : Hid (∀ i, i < t → p i = false)) (hhi : Hid (∀ i, t ≤ i → i < N → p i = true))
    (hcall : Hid (∀ i w', i < N → Below w.heap.size w w' → Calls Tryz.prog 123 #[.int .i64 i, .pointer (some ⟨b1, 0, none⟩), .pointer (some ⟨b2, 0, none⟩)] w' fun e w'' => e = .returned (.bool (p i)) ∧ Below w'.heap.size w' w'')) :
    Calls Tryz.prog 122 #[.int .i64 N, .func (.func 123) #[] #[.pointer (some ⟨b1, 0, none⟩), .pointer (some ⟨b2, 0, none⟩)]] w fun e w' => e = .returned (.int .i64 t) ∧ Below w.heap.size w w' := by
  go_enter Tryz.func122, Tryz.ntmps122
  go_wp2
  go_loopw [5, 6] (fun x y wr => ∃ (i j : Nat), x = .int .i64 i ∧ y = .int .i64 j ∧ i ≤ t ∧ t ≤ j ∧ j ≤ N ∧ Below w.heap.size w wr) (fun x y _ => ((intOf y) - (intOf x)).toNat)
  case atStart => exact ⟨0, N, rfl, rfl, by omega, ht, by omega, (by (repeat (first | (with_reducible refine Below.drew ?_) | (with_reducible refine below_drewN ?_ _) | (with_reducible refine Below.alloc ?_ (by first | omega | (simp; done) | (simp; omega) | (simp at *; omega)) _) | (with_reducible refine Below.setCell ?_ (by first | omega | (simp; done) | (simp; omega) | (simp at *; omega)) _) | (with_reducible exact Below.refl _ _) | (with_reducible assumption) | (with_reducible refine Below.trans ?_ (Below.mono (by assumption) (by first | omega | (simp; done) | (simp; omega) | (simp at *; omega)))))))⟩
  case round =>
    obtain ⟨i, j, rfl, rfl, hi, hj, hjN, hB⟩ := hrel
    have hsz := hB.size
    by_cases hlt : i < j
    · obtain ⟨h, hh⟩ : ∃ h : Nat, Hid ((i + j) / 2 = h) := ⟨_, rfl⟩
      have h1 : i ≤ h ∧ h < j := by rw [← hh.out]; omega
      obtain ⟨h2, h3⟩ := h1
      have e1 : IntKind.i64.wrap ((i : Int) + j) = (i : Int) + j := IntWalk.i64_in _ (by omega)
      have e5 : IntKind.i64.wrap ((h : Int) + 1) = (h : Int) + 1 := IntWalk.i64_in _ (by omega)
      have e6 : IntKind.i64.wrap (h : Int) = h := IntWalk.i64_in _ (by omega)
      have d1 : ((i : Int) + j) / 2 = h := by rw [← hh.out]; omega
      have hlt' : (i : Int) < j := by omega
      cases hp : p h with
      | true =>
        have hC2 : Hid (∀ w', Below w.heap.size w w' → Calls Tryz.prog 123 #[.int .i64 h, .pointer (some ⟨b1, 0, none⟩), .pointer (some ⟨b2, 0, none⟩)] w' fun e w'' => e = .returned (.bool true) ∧ Below w'.heap.size w' w'') := Lib.hid fun w' hw => by have := hcall.out h w' (by omega) hw; rw [hp] at this; exact this
        have ht2 : t ≤ h := by
          rcases Nat.lt_or_ge h t with q | q
          · have := hlo.out h q; rw [hp] at this; cases this
          · exact q
        clear hh hp
        go_wp2_with fail
        refine (hC2.out _ (by (repeat (first | (with_reducible refine Below.drew ?_) | (with_reducible refine below_drewN ?_ _) | (with_reducible refine Below.alloc ?_ (by first | omega | (simp; done) | (simp; omega) | (simp at *; omega)) _) | (with_reducible refine Below.setCell ?_ (by first | omega | (simp; done) | (simp; omega) | (simp at *; omega)) _) | (with_reducible exact Below.refl _ _) | (with_reducible assumption) | (with_reducible refine Below.trans ?_ (Below.mono (by assumption) (by first | omega | (simp; done) | (simp; omega) | (simp at *; omega)))))))).mono ?_
        rintro e x1 ⟨rfl, hb1⟩
        have hB1 : Below w.heap.size w x1 := (by (repeat (first | (with_reducible refine Below.drew ?_) | (with_reducible refine below_drewN ?_ _) | (with_reducible refine Below.alloc ?_ (by first | omega | (simp; done) | (simp; omega) | (simp at *; omega)) _) | (with_reducible refine Below.setCell ?_ (by first | omega | (simp; done) | (simp; omega) | (simp at *; omega)) _) | (with_reducible exact Below.refl _ _) | (with_reducible assumption) | (with_reducible refine Below.trans ?_ (Below.mono (by assumption) (by first | omega | (simp; done) | (simp; omega) | (simp at *; omega)))))))
        clear hb1
        go_wp2
        go_roundw
        case rel => exact ⟨i, h, rfl, rfl, hi, ht2, by omega, hB1⟩
        case measure => (simp [intOf]) <;> omega
      | false =>
        have hC2 : Hid (∀ w', Below w.heap.size w w' → Calls Tryz.prog 123 #[.int .i64 h, .pointer (some ⟨b1, 0, none⟩), .pointer (some ⟨b2, 0, none⟩)] w' fun e w'' => e = .returned (.bool false) ∧ Below w'.heap.size w' w'') := Lib.hid fun w' hw => by have := hcall.out h w' (by omega) hw; rw [hp] at this; exact this
        have ht2 : h < t := by
          rcases Nat.lt_or_ge h t with q | q
          · exact q
          · have := hhi.out h q (by omega); rw [hp] at this; cases this
        clear hh hp
        go_wp2_with fail
        refine (hC2.out _ (by (repeat (first | (with_reducible refine Below.drew ?_) | (with_reducible refine below_drewN ?_ _) | (with_reducible refine Below.alloc ?_ (by first | omega | (simp; done) | (simp; omega) | (simp at *; omega)) _) | (with_reducible refine Below.setCell ?_ (by first | omega | (simp; done) | (simp; omega) | (simp at *; omega)) _) | (with_reducible exact Below.refl _ _) | (with_reducible assumption) | (with_reducible refine Below.trans ?_ (Below.mono (by assumption) (by first | omega | (simp; done) | (simp; omega) | (simp at *; omega)))))))).mono ?_
        rintro e x1 ⟨rfl, hb1⟩
        have hB1 : Below w.heap.size w x1 := (by (repeat (first | (with_reducible refine Below.drew ?_) | (with_reducible refine below_drewN ?_ _) | (with_reducible refine Below.alloc ?_ (by first | omega | (simp; done) | (simp; omega) | (simp at *; omega)) _) | (with_reducible refine Below.setCell ?_ (by first | omega | (simp; done) | (simp; omega) | (simp at *; omega)) _) | (with_reducible exact Below.refl _ _) | (with_reducible assumption) | (with_reducible refine Below.trans ?_ (Below.mono (by assumption) (by first | omega | (simp; done) | (simp; omega) | (simp at *; omega)))))))
        clear hb1
        go_wp2
        go_roundw
        case rel => exact ⟨h + 1, j, by go_num, rfl, ht2, hj, hjN, hB1⟩
        case measure => (simp [intOf]) <;> omega
    · have hk : i = t ∧ j = t := by omega
      obtain ⟨rfl, rfl⟩ := hk
      go_wp2
      go_ret
      exact ⟨rfl, hB⟩
structure WtS (A : Option Addr) (n cap : Nat) (m : Int) (w X : World) : Prop where
  c0 : X.cell? ⟨w.heap.size, 0, none⟩ = some (.slice A n cap)
  c1 : X.cell? ⟨w.heap.size + 1, 0, none⟩ = some (.int .i64 m)
  c2 : X.cell? ⟨w.heap.size + 1 + 1, 0, none⟩ = some (.int .i64 0)
  c3 : X.cell? ⟨w.heap.size + 1 + 1, 1, none⟩ = some (.int .i64 0)
  c4 : X.cell? ⟨w.heap.size + 1 + 1, 2, none⟩ = some (.int .i64 0)
  be : Below w.heap.size w X
  fr : ∀ j, X.frozen? ⟨w.heap.size + 1 + 1, j, none⟩ = false
  lt : w.heap.size + 1 + 1 < X.heap.size
set_option maxRecDepth 100000 in
set_option maxHeartbeats 2000000 in
theorem windAt_is (L : List Wi) (A : Option Addr) (n cap : Nat) (m : Int) (x : Wi) (E : Int) (w : World) (hn : Hid (n = L.length)) (n1 : n ≤ 1000000) (HL : Hid (SlRows wiV 3 w A L)) (hs : Hid (∀ k, k + 1 < L.length → (L.getD k default).f < (L.getD (k + 1) default).f)) (hx : Hid (atW L m n = x)) (hE : Hid (atE L m n = E)) :
    Calls Tryz.prog 83 #[.slice A n cap, .int .i64 m] w fun e w' => e = .returned (.tuple #[.agg #[.int .i64 x.f, .int .i64 x.s, .int .i64 x.o], .int .i64 E]) ∧ Below w.heap.size w w' := by
  obtain ⟨t, ht⟩ : ∃ t, Hid (begU L m n = t) := ⟨_, Lib.hid rfl⟩
  have tn : t ≤ n := by rw [← ht.out]; exact begU_le L m n
  have HR : Hid (∀ w' : World, Below w.heap.size w w' → SlRows wiV 3 w' A L) := Lib.hid fun w' hB => HL.out.below hB
  have HLO : Hid (∀ i, i < t → decide (m < (L.getD i default).f) = false) := Lib.hid fun i hi => by
    have := begU_lo hs.out (Nat.le_of_eq hn.out) (show i < begU L m n by rw [ht.out]; exact hi)
    exact decide_eq_false (by omega)
  have HHI : Hid (∀ i, t ≤ i → i < n → decide (m < (L.getD i default).f) = true) := Lib.hid fun i hi hin => by
    have := begU_hi (L := L) (m := m) (n := n) (show begU L m n ≤ i by rw [ht.out]; exact hi) hin
    exact decide_eq_true this
  have ha := hx.out
  have hb := hE.out
  unfold atW at ha
  unfold atE at hb
  rw [ht.out] at ha hb
  have HA := Lib.hid ha
  have HB := Lib.hid hb
  obtain ⟨xf, xs, xo⟩ := x
  dsimp only
  clear hx hE ha hb hs HL ht
  go_enter Tryz.func83, Tryz.ntmps83
  go_upto_region 1 with (fail)
  refine wp_world (WtS A n cap m w) ⟨by simp [go_sem, World.cell?_alloc_past], by simp [go_sem, World.cell?_alloc_past], by simp [go_sem, World.cell?_alloc_past], by simp [go_sem, World.cell?_alloc_past], by simp [go_sem, World.cell?_alloc_past], (by (repeat (first | (with_reducible refine Below.drew ?_) | (with_reducible refine below_drewN ?_ _) | (with_reducible refine Below.alloc ?_ (by first | omega | (simp; done) | (simp; omega) | (simp at *; omega)) _) | (with_reducible refine Below.setCell ?_ (by first | omega | (simp; done) | (simp; omega) | (simp at *; omega)) _) | (with_reducible exact Below.refl _ _) | (with_reducible assumption) | (with_reducible refine Below.trans ?_ (Below.mono (by assumption) (by first | omega | (simp; done) | (simp; omega) | (simp at *; omega))))))), (by intro j; simp [go_sem]), by simp⟩ (fun u hu => ?_)
  have HU := Lib.hid hu
  have hu0 := hu.c0
  have hus := hu.lt
  clear hu
  go_wp2_with fail
  refine (searchW n t w.heap.size (w.heap.size + 1) (fun i => decide (m < (L.getD i default).f)) _ (by omega) tn HLO HHI (Lib.hid fun i w' hi hw => ?ca)).mono ?_
  case ca =>
    have hw2 := hw
    exact windC_is L A n cap i w.heap.size (w.heap.size + 1) m _ w' hn ((hw.cell (p := ⟨w.heap.size, 0, none⟩) (show w.heap.size < u.heap.size by omega)).trans HU.out.c0) ((hw.cell (p := ⟨w.heap.size + 1, 0, none⟩) (show w.heap.size + 1 < u.heap.size by omega)).trans HU.out.c1) (Lib.hid (HR.out _ (HU.out.be.trans (hw.mono HU.out.be.size)))) hi n1 (Lib.hid rfl)
  rintro e x1 ⟨rfl, hb1⟩
  have hz1 := hb1.size
  have hB1 : Below w.heap.size w x1 := HU.out.be.trans (hb1.mono HU.out.be.size)
  have k0 : x1.cell? ⟨w.heap.size, 0, none⟩ = some (.slice A n cap) := (hb1.cell (p := ⟨w.heap.size, 0, none⟩) (show w.heap.size < u.heap.size by omega)).trans HU.out.c0
  have k2 : x1.cell? ⟨w.heap.size + 1 + 1, 0, none⟩ = some (.int .i64 0) := (hb1.cell (p := ⟨w.heap.size + 1 + 1, 0, none⟩) (show w.heap.size + 1 + 1 < u.heap.size by omega)).trans HU.out.c2
  have k3 : x1.cell? ⟨w.heap.size + 1 + 1, 1, none⟩ = some (.int .i64 0) := (hb1.cell (p := ⟨w.heap.size + 1 + 1, 1, none⟩) (show w.heap.size + 1 + 1 < u.heap.size by omega)).trans HU.out.c3
  have k4 : x1.cell? ⟨w.heap.size + 1 + 1, 2, none⟩ = some (.int .i64 0) := (hb1.cell (p := ⟨w.heap.size + 1 + 1, 2, none⟩) (show w.heap.size + 1 + 1 < u.heap.size by omega)).trans HU.out.c4
  have f0 : ∀ j, x1.frozen? ⟨w.heap.size + 1 + 1, j, none⟩ = false := fun j => (hb1.frozen (p := ⟨w.heap.size + 1 + 1, j, none⟩) (show w.heap.size + 1 + 1 < u.heap.size by omega)).trans (HU.out.fr j)
  have s0 : w.heap.size + 1 + 1 < x1.heap.size := by omega
  have hBs : ∀ v : Value, True := fun _ => trivial
  by_cases hz : t = 0
  · have i0 : ((t : Int) == 0) = true := by simp; omega
    have i1 : (t : Int) = 0 := by omega
    have h3 := HA.out
    have h4 := HB.out
    rw [if_pos hz] at h3 h4
    have HX := Lib.hid h3
    have HY := Lib.hid h4
    clear h3 h4 HA HB hBs hb1 hu0
    subst hz
    go_wp2
    refine bodyPost_ret (v := .tuple #[.agg #[.int .i64 xf, .int .i64 xs, .int .i64 xo], .int .i64 E]) (by
      have e1 := HX.out
      injection e1 with e1 e2 e3
      have e4 := HY.out
      subst e1 e2 e3 e4
      simp [results, Tryz.results83, go_sem, World.cell?_alloc_past, *]) rfl ⟨rfl, ?_⟩
    (repeat (first | (with_reducible refine Below.drew ?_) | (with_reducible refine below_drewN ?_ _) | (with_reducible refine Below.alloc ?_ (by first | omega | (simp; done) | (simp; omega) | (simp at *; omega)) _) | (with_reducible refine Below.setCell ?_ (by first | omega | (simp; done) | (simp; omega) | (simp at *; omega)) _) | (with_reducible exact Below.refl _ _) | (with_reducible assumption) | (with_reducible refine Below.trans ?_ (Below.mono (by assumption) (by first | omega | (simp; done) | (simp; omega) | (simp at *; omega))))))
  · have i1 : ¬ (t : Int) = 0 := by omega
    have i0 : ((t : Int) == 0) = false := by simpa using i1
    have h3 := HA.out
    have h4 := HB.out
    rw [if_neg hz] at h3 h4
    have hkl : t - 1 < L.length := by have := hn.out; omega
    rcases HR.out _ hB1 with h0 | ⟨bl, off, rfl, hlt, hR⟩
    · rw [h0] at hkl; simp at hkl
    obtain ⟨d0, d1, d2⟩ := wi_at hR hkl
    rw [h3] at d0 d1 d2
    dsimp only at d0 d1 d2
    have HY := Lib.hid h4
    have j1 : IntKind.i64.wrap ((t : Int) - 1) = (t : Int) - 1 := IntWalk.i64_in _ (by omega)
    have j2 : (0 : Int) ≤ (t : Int) - 1 := by omega
    have j3 : ((t : Int) - 1).toNat = t - 1 := by omega
    have j4 : (t : Int) - 1 < (n : Int) := by omega
    clear h3 h4 HA HB hBs hb1 hu0 hR
    go_wp2
    refine bodyPost_ret (v := .tuple #[.agg #[.int .i64 xf, .int .i64 xs, .int .i64 xo], .int .i64 E]) (by
      have e4 := HY.out
      subst e4
      simp [results, Tryz.results83, go_sem, World.cell?_alloc_past, *]) rfl ⟨rfl, ?_⟩
    (repeat (first | (with_reducible refine Below.drew ?_) | (with_reducible refine below_drewN ?_ _) | (with_reducible refine Below.alloc ?_ (by first | omega | (simp; done) | (simp; omega) | (simp at *; omega)) _) | (with_reducible refine Below.setCell ?_ (by first | omega | (simp; done) | (simp; omega) | (simp at *; omega)) _) | (with_reducible exact Below.refl _ _) | (with_reducible assumption) | (with_reducible refine Below.trans ?_ (Below.mono (by assumption) (by first | omega | (simp; done) | (simp; omega) | (simp at *; omega))))))
def fcE (x : Int) : Int := rngE x 0 200
theorem checkForceE (n F : Int) (w : World) (hF : Hid (fcE n = F)) :
    Calls Tryz.prog 85 #[.int .i64 n] w fun e w' => e = .returned (.int .i64 F) ∧ Below w.heap.size w w' := by
  refine (checkForce_is n w).mono ?_
  rintro e w' ⟨rfl, rfl⟩
  exact ⟨by rw [← hF.out]; rfl, Below.refl _ _⟩
theorem int_at {w : World} {b off : Nat} {L : List Int} (h : RowsAt intV 1 w b off L) {k : Nat} (hk : k < L.length) : w.cell? ⟨b, off + k, none⟩ = some (.int .i64 L[k]) := by
  have := h k hk 0 (by omega)
  rw [Nat.mul_one, Nat.add_zero] at this
  exact this
theorem eachForce1_is (i p F : Int) (c : Nat) (w : World) (hc : w.cell? ⟨c, 0, none⟩ = some (.func (.func 85) #[] #[])) (hcl : c < w.heap.size) (hF : Hid (fcE p = F)) :
    Calls Tryz.prog 125 #[.int .i64 i, .int .i64 p, .pointer (some ⟨c, 0, none⟩)] w fun e w' => e = .returned (.int .i64 F) ∧ Below w.heap.size w w' := by
  have o1 : c ≠ w.heap.size := by omega
  have o2 : w.heap.size ≠ c := by omega
  go_enter Tryz.func125, Tryz.ntmps125
  go_wp2_with fail
  refine (checkForceE p F _ hF).mono ?_
  rintro e w1 ⟨rfl, hb1⟩
  have hB1 : Below w.heap.size w w1 := (by (repeat (first | (with_reducible refine Below.drew ?_) | (with_reducible refine below_drewN ?_ _) | (with_reducible refine Below.alloc ?_ (by first | omega | (simp; done) | (simp; omega) | (simp at *; omega)) _) | (with_reducible refine Below.setCell ?_ (by first | omega | (simp; done) | (simp; omega) | (simp at *; omega)) _) | (with_reducible exact Below.refl _ _) | (with_reducible assumption) | (with_reducible refine Below.trans ?_ (Below.mono (by assumption) (by first | omega | (simp; done) | (simp; omega) | (simp at *; omega)))))))
  clear hb1
  go_wp2
  go_ret
  exact ⟨rfl, hB1⟩
set_option maxRecDepth 100000 in
set_option maxHeartbeats 1000000 in
theorem numForce_any (L : List Int) (A : Option Addr) (cap c n : Nat) (E : Int) (w : World) (hn : Hid (n = L.length)) (hl : n ≤ 1000000) (hL : SlRows intV 1 w A L) (hc : w.cell? ⟨c, 0, none⟩ = some (.func (.func 85) #[] #[])) (hcl : c < w.heap.size) (hE : Hid (fstE fcE L = E)) :
    Calls Tryz.prog 124 #[.slice A n cap, .func (.func 125) #[] #[.pointer (some ⟨c, 0, none⟩)]] w (NumP E w) := by
  have HP : Hid (∀ w' : World, Below w.heap.size w w' → SlRows intV 1 w' A L) := Lib.hid fun w' hB => hL.below hB
  have HC := Lib.hid hc
  clear hL hc
  go_enter Tryz.func124, Tryz.ntmps124
  go_wp2
  go_loopw [11] (fun i wr => ∃ k : Nat, k ≤ n ∧ i = .int .i64 k ∧ Hid (∀ j, (hj : j < k) → (hj' : j < L.length) → fcE L[j] = 0) ∧ Below w.heap.size w wr) (fun i _ => n - (intOf i).toNat)
  case atStart => exact ⟨0, by omega, rfl, fun j hj => by omega, (by (repeat (first | (with_reducible refine Below.drew ?_) | (with_reducible refine below_drewN ?_ _) | (with_reducible refine Below.alloc ?_ (by first | omega | (simp; done) | (simp; omega) | (simp at *; omega)) _) | (with_reducible refine Below.setCell ?_ (by first | omega | (simp; done) | (simp; omega) | (simp at *; omega)) _) | (with_reducible exact Below.refl _ _) | (with_reducible assumption) | (with_reducible refine Below.trans ?_ (Below.mono (by assumption) (by first | omega | (simp; done) | (simp; omega) | (simp at *; omega)))))))⟩
  case round =>
    obtain ⟨k, hk, rfl, hz, hB⟩ := hrel
    by_cases hkn : k < n
    · have hkl : k < L.length := by have := hn.out; omega
      have kn : (k : Int) < (n : Int) := by omega
      rcases HP.out _ hB with h0 | ⟨b, off, rfl, hlt, hR⟩
      · rw [h0] at hkl; simp at hkl
      have c0 := int_at hR hkl
      have hsz := hB.size
      have cw := (hB.cell (p := ⟨c, 0, none⟩) hcl).trans HC.out
      have hcw : c < wr.heap.size := by omega
      have CW : Hid (∀ v : Obj, (wr.alloc v).cell? ⟨c, 0, none⟩ = some (.func (.func 85) #[] #[]) ∧ c < (wr.alloc v).heap.size) := Lib.hid fun v => ⟨(((Below.refl wr.heap.size wr).alloc (Nat.le_refl _) v).cell (p := ⟨c, 0, none⟩) hcw).trans cw, by simp; omega⟩
      obtain ⟨p0, h0⟩ : ∃ x, Hid (L[k] = x) := ⟨L[k], Lib.hid rfl⟩
      rw [h0.out] at c0
      obtain ⟨F, hF⟩ : ∃ F, Hid (fcE p0 = F) := ⟨_, Lib.hid rfl⟩
      have CW2 : Hid (wr.cell? ⟨c, 0, none⟩ = some (.func (.func 85) #[] #[]) ∧ c < wr.heap.size) := Lib.hid ⟨cw, hcw⟩
      clear hR cw
      rcases ez2 F with ⟨hz0, hzb⟩ | ⟨hz0, hzb⟩
      · have hz2 : Hid (∀ j, (hj : j < k + 1) → (hj' : j < L.length) → fcE L[j] = 0) := fun j hj hj' => by
          by_cases e : j = k
          · subst e; rw [h0.out, hF.out]; exact hz0.out
          · exact hz.out j (by omega) hj'
        clear hz hz0
        go_wp2_with fail
        refine (eachForce1_is _ p0 F c _ CW2.out.1 CW2.out.2 hF).mono ?_
        rintro e w1 ⟨rfl, hb1⟩
        have hB1 : Below w.heap.size w w1 := (by (repeat (first | (with_reducible refine Below.drew ?_) | (with_reducible refine below_drewN ?_ _) | (with_reducible refine Below.alloc ?_ (by first | omega | (simp; done) | (simp; omega) | (simp at *; omega)) _) | (with_reducible refine Below.setCell ?_ (by first | omega | (simp; done) | (simp; omega) | (simp at *; omega)) _) | (with_reducible exact Below.refl _ _) | (with_reducible assumption) | (with_reducible refine Below.trans ?_ (Below.mono (by assumption) (by first | omega | (simp; done) | (simp; omega) | (simp at *; omega)))))))
        clear hb1
        go_wp2
        go_roundw
        case rel => exact ⟨k + 1, by omega, by go_num, hz2, hB1⟩
        case measure => simp [intOf]; omega
      · have hr : Hid (E = F) := Lib.hid (by
          have h1 : fcE L[k] ≠ 0 := by rw [h0.out, hF.out]; exact hz0.out
          have h2 := fstE_at hkl (fun j hj => hz.out j hj (by omega)) h1
          rw [h0.out, hF.out, hE.out] at h2
          exact h2)
        clear hz
        go_wp2_with fail
        refine (eachForce1_is _ p0 F c _ CW2.out.1 CW2.out.2 hF).mono ?_
        rintro e w1 ⟨rfl, hb1⟩
        have hB1 : Below w.heap.size w w1 := (by (repeat (first | (with_reducible refine Below.drew ?_) | (with_reducible refine below_drewN ?_ _) | (with_reducible refine Below.alloc ?_ (by first | omega | (simp; done) | (simp; omega) | (simp at *; omega)) _) | (with_reducible refine Below.setCell ?_ (by first | omega | (simp; done) | (simp; omega) | (simp at *; omega)) _) | (with_reducible exact Below.refl _ _) | (with_reducible assumption) | (with_reducible refine Below.trans ?_ (Below.mono (by assumption) (by first | omega | (simp; done) | (simp; omega) | (simp at *; omega)))))))
        clear hb1
        go_wp2
        go_ret2
        exact ⟨(k : Int), by rw [hr.out]; rfl, hB1⟩
    · have hkk : k = n := by omega
      have hr : Hid (E = 0) := Lib.hid (by rw [← hE.out]; exact fstE_z fun j hj => hz.out j (by have := hn.out; omega) hj)
      clear hz hkk
      go_wp2
      go_ret2
      exact ⟨0, by rw [hr.out]; rfl, hB⟩
theorem eachForce_any (L : List Int) (A : Option Addr) (cap n : Nat) (E : Int) (w : World) (hn : Hid (n = L.length)) (hl : n ≤ 1000000) (hL : SlRows intV 1 w A L) (hE : Hid (fstE fcE L = E)) :
    Calls Tryz.prog 84 #[.slice A n cap, .func (.func 85) #[] #[]] w fun e w' => e = .returned (.int .i64 E) ∧ Below w.heap.size w w' := by
  have HR : Hid (∀ w' : World, Below w.heap.size w w' → SlRows intV 1 w' A L) := Lib.hid fun w' hB => hL.below hB
  clear hL
  go_enter Tryz.func84, Tryz.ntmps84
  go_wp2_with fail
  refine (numForce_any L A cap w.heap.size n E _ hn hl (HR.out _ (by (repeat (first | (with_reducible refine Below.drew ?_) | (with_reducible refine below_drewN ?_ _) | (with_reducible refine Below.alloc ?_ (by first | omega | (simp; done) | (simp; omega) | (simp at *; omega)) _) | (with_reducible refine Below.setCell ?_ (by first | omega | (simp; done) | (simp; omega) | (simp at *; omega)) _) | (with_reducible exact Below.refl _ _) | (with_reducible assumption) | (with_reducible refine Below.trans ?_ (Below.mono (by assumption) (by first | omega | (simp; done) | (simp; omega) | (simp at *; omega)))))))) (by simp [go_sem]) (by simp) hE).mono ?_
  rintro e w1 ⟨i, rfl, hb1⟩
  have hB1 : Below w.heap.size w w1 := (by (repeat (first | (with_reducible refine Below.drew ?_) | (with_reducible refine below_drewN ?_ _) | (with_reducible refine Below.alloc ?_ (by first | omega | (simp; done) | (simp; omega) | (simp at *; omega)) _) | (with_reducible refine Below.setCell ?_ (by first | omega | (simp; done) | (simp; omega) | (simp at *; omega)) _) | (with_reducible exact Below.refl _ _) | (with_reducible assumption) | (with_reducible refine Below.trans ?_ (Below.mono (by assumption) (by first | omega | (simp; done) | (simp; omega) | (simp at *; omega)))))))
  clear hb1
  go_wp2
  go_ret
  exact ⟨rfl, hB1⟩
end Go.Proofs.YtojaompfffpofaaGreat
