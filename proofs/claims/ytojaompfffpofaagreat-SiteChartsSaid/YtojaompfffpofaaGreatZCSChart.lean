import Derived.Test.YtojaompfffpofaaGreatZCSNmd
import Derived.Test.YtojaompfffpofaaGreatZCSWof
import Derived.Outline
namespace Go.Proofs.YtojaompfffpofaaGreat
open Go.ChangeShapes Go.WideShapes Go.ChangeAt Go.RowKit
set_option linter.unusedVariables false
set_option linter.unusedSimpArgs false
attribute [local go_sem ↓] Go.wp_at_zero Go.wp_at_succ
/-- Rows of numbers, each a slice of its own. -/
def MatAt (w : World) (b off : Nat) (M : List (List Int)) : Prop := ∀ k, k < M.length → ∃ A cap, w.cell? ⟨b, off + k, none⟩ = some (.slice A (M.getD k []).length cap) ∧ SlRows intV 1 w A (M.getD k [])
def SlMat (w : World) (B : Option Addr) (M : List (List Int)) : Prop := M = [] ∨ ∃ b off, B = some ⟨b, off, none⟩ ∧ b < w.heap.size ∧ MatAt w b off M
theorem SlMat.below {w w' : World} {B : Option Addr} {M : List (List Int)} (h : SlMat w B M) (hb : Below w.heap.size w w') : SlMat w' B M := by
  rcases h with h | ⟨b, off, rfl, hlt, h⟩
  · exact Or.inl h
  · refine Or.inr ⟨b, off, rfl, Nat.lt_of_lt_of_le hlt hb.size, fun k hk => ?_⟩
    obtain ⟨A, cap, h1, h2⟩ := h k hk
    exact ⟨A, cap, (hb.cell (p := ⟨b, _, none⟩) hlt).trans h1, h2.below hb⟩
def mAt (M : List (List Int)) (i j : Nat) : Int := (M.getD i []).getD j 0
/-- A right chart. -/
structure ChOk (Pl : List ByteArray) (M : List (List Int)) : Prop where
  n12 : Pl.length ≤ 12
  nms : nmlE [] Pl = 0
  siz : ∀ s ∈ Pl, s.size ≤ 1000000
  len : M.length = Pl.length
  row : ∀ i, i < Pl.length → (M.getD i []).length = Pl.length
  bnd : ∀ i j, i < Pl.length → j < Pl.length → -1 ≤ mAt M i j ∧ mAt M i j ≤ 10000
  dia : ∀ i, i < Pl.length → mAt M i i = 0
/-- The slices of a chart's places and minutes read as lists. -/
structure ChSl (w : World) (A B : Option Addr) (n : Nat) (Pl : List ByteArray) (M : List (List Int)) : Prop where
  hn : n = Pl.length
  ok : ChOk Pl M
  pl : SlRows strV 1 w A Pl
  mn : SlMat w B M
theorem ChSl.below {w w' : World} {A B : Option Addr} {n : Nat} {Pl : List ByteArray} {M : List (List Int)} (h : ChSl w A B n Pl M) (hb : Below w.heap.size w w') : ChSl w' A B n Pl M := ⟨h.hn, h.ok, h.pl.below hb, h.mn.below hb⟩
theorem getD_at {α : Type} {L : List α} {d : α} {k : Nat} (hk : k < L.length) : L.getD k d = L[k] := by rw [List.getD_eq_getElem?_getD, List.getElem?_eq_getElem hk]; rfl
/-- A number of a row of a matrix. -/
theorem ChSl.at {w : World} {A B : Option Addr} {n : Nat} {Pl : List ByteArray} {M : List (List Int)} (h : ChSl w A B n Pl M) {i : Nat} (hi : i < n) : ∃ b off C cap, B = some ⟨b, off, none⟩ ∧ b < w.heap.size ∧ w.cell? ⟨b, off + i, none⟩ = some (.slice (some C) n cap) ∧ C.spot = none ∧ C.block < w.heap.size ∧ ∀ j, j < n → w.cell? ⟨C.block, C.off + j, none⟩ = some (.int .i64 (mAt M i j)) := by
  have hi2 : i < M.length := by rw [h.ok.len, ← h.hn]; exact hi
  have hl := h.ok.row i (by rw [← h.hn]; exact hi)
  rcases h.mn with h0 | ⟨b, off, rfl, hlt, hM⟩
  · rw [h0] at hi2; simp at hi2
  obtain ⟨C, cap, h1, h2⟩ := hM i hi2
  rw [hl, ← h.hn] at h1
  rcases h2 with h0 | ⟨c, o, rfl, hc, hR⟩
  · rw [h0] at hl; simp at hl; have := h.hn; omega
  refine ⟨b, off, ⟨c, o, none⟩, cap, rfl, hlt, h1, rfl, hc, fun j hj => ?_⟩
  have hj2 : j < (M.getD i []).length := by rw [hl, ← h.hn]; exact hj
  have := hR j hj2 0 (by omega)
  rw [show (intV (M.getD i [])[j])[0]? = some (.int .i64 (M.getD i [])[j]) from rfl, Nat.add_zero, Nat.mul_one] at this
  rw [this]; unfold mAt; rw [getD_at hj2]
theorem other_is (A B : Option Addr) (n cap cb c : Nat) (w : World) (hc : w.cell? ⟨c, 0, none⟩ = some (.slice B n cb)) :
    Calls Tryz.prog 97 #[.slice A n cap, .pointer (some ⟨c, 0, none⟩)] w fun e w' => e = .returned (.bool false) ∧ w = w' := by
  go_enter Tryz.func97, Tryz.ntmps97
  go_wp2
  go_ret
  exact ⟨rfl, rfl⟩
set_option maxRecDepth 100000 in
set_option maxHeartbeats 1000000 in
theorem indexRows_is (A B E : Option Addr) (n cap cb c : Nat) (Pl : List ByteArray) (M : List (List Int)) (w : World) (hl : n ≤ 12) (HC : Hid (ChSl w A B n Pl M)) (hc : w.cell? ⟨c, 0, none⟩ = some (.slice E n cb)) :
    Calls Tryz.prog 131 #[.slice B n cap, .func (.func 97) #[] #[.pointer (some ⟨c, 0, none⟩)]] w fun e w' => e = .returned (.int .i64 (-1)) ∧ w = w' := by
  go_enter Tryz.func131, Tryz.ntmps131
  go_wp2
  go_loop [8] (fun i => ∃ k : Nat, k ≤ n ∧ i = .int .i64 k) (fun i => n - (intOf i).toNat)
  case atStart => exact ⟨0, by omega, rfl⟩
  case round =>
    obtain ⟨k, hk, rfl⟩ := hrel
    by_cases hkn : k < n
    · have kn : (k : Int) < (n : Int) := by omega
      obtain ⟨b, off, C, ca, rfl, hb, h1, _, _, _⟩ := HC.out.at hkn
      go_wp2_with fail
      refine (other_is _ E n _ cb c _ hc).mono ?_
      rintro e w1 ⟨rfl, rfl⟩
      go_wp2
      go_round
      case rel => exact ⟨k + 1, by omega, by go_num⟩
      case measure => (simp [intOf]) <;> omega
    · go_wp2
      go_ret
      exact ⟨rfl, rfl⟩
theorem containsRows_is (A B E : Option Addr) (n cap cb c : Nat) (Pl : List ByteArray) (M : List (List Int)) (w : World) (hl : n ≤ 12) (HC : Hid (ChSl w A B n Pl M)) (hc : w.cell? ⟨c, 0, none⟩ = some (.slice E n cb)) :
    Calls Tryz.prog 98 #[.slice B n cap, .func (.func 97) #[] #[.pointer (some ⟨c, 0, none⟩)]] w fun e w' => e = .returned (.bool false) ∧ w = w' := by
  go_enter Tryz.func98, Tryz.ntmps98
  go_wp2_with fail
  refine (indexRows_is A B E n cap cb c Pl M _ hl HC hc).mono ?_
  rintro e w1 ⟨rfl, rfl⟩
  go_wp2
  go_ret
  exact ⟨rfl, rfl⟩
set_option maxRecDepth 100000 in
set_option maxHeartbeats 2000000 in
theorem checkMinutes_is (A B : Option Addr) (n ca cb : Nat) (Pl : List ByteArray) (M : List (List Int)) (w : World) (hl : n ≤ 12) (HC : Hid (ChSl w A B n Pl M)) :
    Calls Tryz.prog 99 #[.agg #[.slice A n ca, .slice B n cb]] w fun e w' => e = .returned (.int .i64 0) ∧ Below w.heap.size w w' := by
  obtain ⟨u, hu⟩ : ∃ u, Hid (w.alloc (.cells #[.slice A n ca, .slice B n cb] 78) = u) := ⟨_, Lib.hid rfl⟩
  have hB : Below w.heap.size w u := by rw [← hu.out]; exact (Below.refl _ _).alloc (Nat.le_refl _) _
  have HB := Lib.hid hB
  have HU := Lib.hid (HC.out.below hB)
  have g1 : u.cell? ⟨w.heap.size, 1, none⟩ = some (.slice B n cb) := by rw [← hu.out]; simp [go_sem]
  clear hB
  go_enter Tryz.func99, Tryz.ntmps99
  go_wp2_with fail
  rw [hu.out]
  go_wp2
  go_loop [11] (fun i => ∃ k : Nat, k ≤ n ∧ i = .int .i64 k) (fun i => n - (intOf i).toNat)
  case atStart => exact ⟨0, by omega, rfl⟩
  case round =>
    obtain ⟨k, hk, rfl⟩ := hrel
    by_cases hkn : k < n
    · have kn : (k : Int) < (n : Int) := by omega
      obtain ⟨b, off, C, cap, rfl, hb, h1, hsp, hcb, hj⟩ := HU.out.at hkn
      obtain ⟨cbk, cof, csp⟩ := C
      dsimp only at hsp hcb hj
      subst hsp
      have HJ := Lib.hid hj
      clear hj
      go_wp2
      go_loop [18] (fun i => ∃ q : Nat, q ≤ n ∧ i = .int .i64 q) (fun i => n - (intOf i).toNat)
      case atStart => exact ⟨0, by omega, rfl⟩
      case round =>
        obtain ⟨q, hq, rfl⟩ := hrel
        by_cases hqn : q < n
        · have qn : (q : Int) < (n : Int) := by omega
          have hx := HJ.out q hqn
          have hbd := HU.out.ok.bnd k q (by have := HU.out.hn; omega) (by have := HU.out.hn; omega)
          have hdi : k = q → mAt M k q = 0 := fun e => by rw [← e]; exact HU.out.ok.dia k (by have := HU.out.hn; omega)
          obtain ⟨x, hxx⟩ : ∃ x, Hid (mAt M k q = x) := ⟨_, Lib.hid rfl⟩
          rw [hxx.out] at hx hbd hdi
          have hr : rngE x (-1) 10000 = 0 := rngE_t (inB_true hbd.1 hbd.2)
          by_cases e : k = q
          · have hx0 : x = 0 := hdi e
            subst hx0
            subst e
            clear hdi hbd hxx
            go_wp2_with ((go_at_call 87; ((with_reducible refine (cRange_any _ _ _ _).mono ?_)); rintro e w' ⟨rfl, rfl⟩))
            go_round
            case rel => exact ⟨k + 1, by omega, by go_num⟩
            case measure => (simp [intOf]) <;> omega
          · have e1 : ((k : Int) == (q : Int)) = false := by simpa using (by omega : ¬ (k : Int) = (q : Int))
            have e2 : ¬ (k : Int) = (q : Int) := by omega
            clear hdi hbd e hxx
            go_wp2_with ((go_at_call 87; ((with_reducible refine (cRange_any _ _ _ _).mono ?_)); rintro e w' ⟨rfl, rfl⟩))
            go_round
            case rel => exact ⟨q + 1, by omega, by go_num⟩
            case measure => (simp [intOf]) <;> omega
        · go_wp2
          go_round
          case rel => exact ⟨k + 1, by omega, by go_num⟩
          case measure => (simp [intOf]) <;> omega
    · go_wp2
      go_ret
      exact ⟨rfl, HB.out⟩
theorem namedSl_is (L : List ByteArray) (A : Option Addr) (cap len : Nat) (w : World) (hlen : Hid (len = L.length)) (hl0 : 0 < len) (hl : len ≤ 1000000) (hsz : Hid (∀ s ∈ L, s.size ≤ 1000000)) (HP : Hid (SlRows strV 1 w A L)) (hE : Hid (nmlE [] L = 0)) :
    Calls Tryz.prog 96 #[.slice A len cap, .func (.func 94) #[] #[], .func (.func 95) #[] #[]] w fun e w' => e = .returned (.int .i64 0) ∧ Below w.heap.size w w' := by
  rcases HP.out with h0 | ⟨b, off, rfl, hlt, h⟩
  · have := hlen.out; rw [h0] at this; simp at this; omega
  · exact namedNames_is L b off cap len 0 w hlen hl hsz hlt (Lib.hid h) hE
set_option maxRecDepth 100000 in
set_option maxHeartbeats 1000000 in
theorem CheckChart_ok (A B : Option Addr) (n ca cb : Nat) (Pl : List ByteArray) (M : List (List Int)) (w : World) (hl0 : 0 < n) (hl : n ≤ 12) (HC : Hid (ChSl w A B n Pl M)) :
    Calls Tryz.prog 46 #[.agg #[.slice A n ca, .slice B n cb]] w fun e w' => e = .returned (.int .i64 0) ∧ Below w.heap.size w w' := by
  have i0 : ¬ (12 : Int) < (n : Int) := by omega
  go_enter Tryz.func46, Tryz.ntmps46
  go_wp2_with fail
  have hB0 : Below w.heap.size w (w.alloc (.cells #[.slice A n ca, .slice B n cb] 78)) := (Below.refl _ _).alloc (Nat.le_refl _) _
  refine (namedSl_is Pl A ca n _ (Lib.hid HC.out.hn) hl0 (by omega) (Lib.hid HC.out.ok.siz) (Lib.hid (HC.out.pl.below hB0)) (Lib.hid HC.out.ok.nms)).mono ?_
  rintro e w1 ⟨rfl, hb1⟩
  have z1 := hb1.size
  try simp at z1
  have g0 : w1.cell? ⟨w.heap.size, 0, none⟩ = some (.slice A n ca) := by rw [(bcell hb1).1 _ _ (by simp)]; simp [go_sem]
  have g1 : w1.cell? ⟨w.heap.size, 1, none⟩ = some (.slice B n cb) := by rw [(bcell hb1).1 _ _ (by simp)]; simp [go_sem]
  have hB1 : Below w.heap.size w w1 := hB0.trans (hb1.mono hB0.size)
  have HB1 := Lib.hid hB1
  have HC1 := Lib.hid (HC.out.below hB1)
  have hmf : ∀ (fn : Fn) (first cap : Array Value) (w : World), (Instr.makeFunc fn first cap).run Tryz.prog w = .ok (.func fn first cap) w := fun _ _ _ _ => rfl
  clear hb1 hB0 hB1
  go_wp2_with fail
  refine (containsRows_is A B A n cb ca w.heap.size Pl M _ hl HC1 g0).mono ?_
  rintro e w2 ⟨rfl, rfl⟩
  go_wp2_with fail
  refine (checkMinutes_is A B n ca cb Pl M _ hl HC1).mono ?_
  rintro e w3 ⟨rfl, hb3⟩
  have HB3 := Lib.hid (HB1.out.trans (hb3.mono HB1.out.size))
  clear hb3
  go_wp2
  go_ret
  exact ⟨rfl, HB3.out⟩
end Go.Proofs.YtojaompfffpofaaGreat
