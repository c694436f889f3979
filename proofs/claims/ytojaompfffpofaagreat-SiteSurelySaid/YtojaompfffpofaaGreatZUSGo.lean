import Derived.Test.YtojaompfffpofaaGreatSNmd
import Derived.Test.YtojaompfffpofaaGreatSWof
import Derived.Outline
namespace Go.Proofs.YtojaompfffpofaaGreat
open Go.ChangeShapes Go.WideShapes Go.ChangeAt Go.RowKit
set_option linter.unusedVariables false
set_option linter.unusedSimpArgs false
attribute [local go_sem ↓] Go.wp_at_zero Go.wp_at_succ
/-- Rows of numbers, each a slice of its own. -/
def MatAt (w : World) (b off : Nat) (M : List (List Int)) : Prop := ∀ k, k < M.length → ∃ A cap, w.cell? ⟨b, off + k, none⟩ = some (.slice A (M.getD k []).length cap) ∧ SlRows intV 1 w A (M.getD k [])
def SlMat (w : World) (B : Option Addr) (M : List (List Int)) : Prop := M = [] ∨ ∃ b off, B = some ⟨b, off, none⟩ ∧ b < w.heap.size ∧ MatAt w b off M
theorem SlMat.below {w w' : World} {B : Option Addr} {M : List (List Int)} (h : SlMat w B M) (hb : Below w.heap.size w w') : SlMat w' B M := by
  rcases h with h | ⟨b, off, rfl, hlt, h⟩
  · exact Or.inl h
  · refine Or.inr ⟨b, off, rfl, Nat.lt_of_lt_of_le hlt hb.size, fun k hk => ?_⟩
    obtain ⟨A, cap, h1, h2⟩ := h k hk
    exact ⟨A, cap, (hb.cell (p := ⟨b, _, none⟩) hlt).trans h1, h2.below hb⟩
def mAt (M : List (List Int)) (i j : Nat) : Int := (M.getD i []).getD j 0
/-- A right chart. -/
structure ChOk (Pl : List ByteArray) (M : List (List Int)) : Prop where
  n12 : Pl.length ≤ 12
  nms : nmlE [] Pl = 0
  siz : ∀ s ∈ Pl, s.size ≤ 1000000
  len : M.length = Pl.length
  row : ∀ i, i < Pl.length → (M.getD i []).length = Pl.length
  bnd : ∀ i j, i < Pl.length → j < Pl.length → -1 ≤ mAt M i j ∧ mAt M i j ≤ 10000
  dia : ∀ i, i < Pl.length → mAt M i i = 0
/-- The slices of a chart's places and minutes read as lists. -/
structure ChSl (w : World) (A B : Option Addr) (n : Nat) (Pl : List ByteArray) (M : List (List Int)) : Prop where
  hn : n = Pl.length
  ok : ChOk Pl M
  pl : SlRows strV 1 w A Pl
  mn : SlMat w B M
theorem ChSl.below {w w' : World} {A B : Option Addr} {n : Nat} {Pl : List ByteArray} {M : List (List Int)} (h : ChSl w A B n Pl M) (hb : Below w.heap.size w w') : ChSl w' A B n Pl M := ⟨h.hn, h.ok, h.pl.below hb, h.mn.below hb⟩
theorem getD_at {α : Type} {L : List α} {d : α} {k : Nat} (hk : k < L.length) : L.getD k d = L[k] := by rw [List.getD_eq_getElem?_getD, List.getElem?_eq_getElem hk]; rfl
/-- A number of a row of a matrix. -/
theorem ChSl.at {w : World} {A B : Option Addr} {n : Nat} {Pl : List ByteArray} {M : List (List Int)} (h : ChSl w A B n Pl M) {i : Nat} (hi : i < n) : ∃ b off C cap, B = some ⟨b, off, none⟩ ∧ b < w.heap.size ∧ w.cell? ⟨b, off + i, none⟩ = some (.slice (some C) n cap) ∧ C.spot = none ∧ C.block < w.heap.size ∧ ∀ j, j < n → w.cell? ⟨C.block, C.off + j, none⟩ = some (.int .i64 (mAt M i j)) := by
  have hi2 : i < M.length := by rw [h.ok.len, ← h.hn]; exact hi
  have hl := h.ok.row i (by rw [← h.hn]; exact hi)
  rcases h.mn with h0 | ⟨b, off, rfl, hlt, hM⟩
  · rw [h0] at hi2; simp at hi2
  obtain ⟨C, cap, h1, h2⟩ := hM i hi2
  rw [hl, ← h.hn] at h1
  rcases h2 with h0 | ⟨c, o, rfl, hc, hR⟩
  · rw [h0] at hl; simp at hl; have := h.hn; omega
  refine ⟨b, off, ⟨c, o, none⟩, cap, rfl, hlt, h1, rfl, hc, fun j hj => ?_⟩
  have hj2 : j < (M.getD i []).length := by rw [hl, ← h.hn]; exact hj
  have := hR j hj2 0 (by omega)
  rw [show (intV (M.getD i [])[j])[0]? = some (.int .i64 (M.getD i [])[j]) from rfl, Nat.add_zero, Nat.mul_one] at this
  rw [this]; unfold mAt; rw [getD_at hj2]
theorem other_is (A B : Option Addr) (n cap cb c : Nat) (w : World) (hc : w.cell? ⟨c, 0, none⟩ = some (.slice B n cb)) :
    Calls Tryz.prog 97 #[.slice A n cap, .pointer (some ⟨c, 0, none⟩)] w fun e w' => e = .returned (.bool false) ∧ w = w' := by
  go_enter Tryz.func97, Tryz.ntmps97
  go_wp2
  go_ret
  exact ⟨rfl, rfl⟩
set_option maxRecDepth 100000 in
set_option maxHeartbeats 1000000 in
theorem indexRows_is (A B E : Option Addr) (n cap cb c : Nat) (Pl : List ByteArray) (M : List (List Int)) (w : World) (hl : n ≤ 12) (HC : Hid (ChSl w A B n Pl M)) (hc : w.cell? ⟨c, 0, none⟩ = some (.slice E n cb)) :
    Calls Tryz.prog 131 #[.slice B n cap, .func (.func 97) #[] #[.pointer (some ⟨c, 0, none⟩)]] w fun e w' => e = .returned (.int .i64 (-1)) ∧ w = w' := by
  go_enter Tryz.func131, Tryz.ntmps131
  go_wp2
  go_loop [8] (fun i => ∃ k : Nat, k ≤ n ∧ i = .int .i64 k) (fun i => n - (intOf i).toNat)
  case atStart => exact ⟨0, by omega, rfl⟩
  case round =>
    obtain ⟨k, hk, rfl⟩ := hrel
    by_cases hkn : k < n
    · have kn : (k : Int) < (n : Int) := by omega
      obtain ⟨b, off, C, ca, rfl, hb, h1, _, _, _⟩ := HC.out.at hkn
      go_wp2_with fail
      refine (other_is _ E n _ cb c _ hc).mono ?_
      rintro e w1 ⟨rfl, rfl⟩
      go_wp2
      go_round
      case rel => exact ⟨k + 1, by omega, by go_num⟩
      case measure => (simp [intOf]) <;> omega
    · go_wp2
      go_ret
      exact ⟨rfl, rfl⟩
theorem containsRows_is (A B E : Option Addr) (n cap cb c : Nat) (Pl : List ByteArray) (M : List (List Int)) (w : World) (hl : n ≤ 12) (HC : Hid (ChSl w A B n Pl M)) (hc : w.cell? ⟨c, 0, none⟩ = some (.slice E n cb)) :
    Calls Tryz.prog 98 #[.slice B n cap, .func (.func 97) #[] #[.pointer (some ⟨c, 0, none⟩)]] w fun e w' => e = .returned (.bool false) ∧ w = w' := by
  go_enter Tryz.func98, Tryz.ntmps98
  go_wp2_with fail
  refine (indexRows_is A B E n cap cb c Pl M _ hl HC hc).mono ?_
  rintro e w1 ⟨rfl, rfl⟩
  go_wp2
  go_ret
  exact ⟨rfl, rfl⟩
set_option maxRecDepth 100000 in
set_option maxHeartbeats 2000000 in
theorem checkMinutes_is (A B : Option Addr) (n ca cb : Nat) (Pl : List ByteArray) (M : List (List Int)) (w : World) (hl : n ≤ 12) (HC : Hid (ChSl w A B n Pl M)) :
    Calls Tryz.prog 99 #[.agg #[.slice A n ca, .slice B n cb]] w fun e w' => e = .returned (.int .i64 0) ∧ Below w.heap.size w w' := by
  obtain ⟨u, hu⟩ : ∃ u, Hid (w.alloc (.cells #[.slice A n ca, .slice B n cb] 78) = u) := ⟨_, Lib.hid rfl⟩
  have hB : Below w.heap.size w u := by rw [← hu.out]; exact (Below.refl _ _).alloc (Nat.le_refl _) _
  have HB := Lib.hid hB
  have HU := Lib.hid (HC.out.below hB)
  have g1 : u.cell? ⟨w.heap.size, 1, none⟩ = some (.slice B n cb) := by rw [← hu.out]; simp [go_sem]
  clear hB
  go_enter Tryz.func99, Tryz.ntmps99
  go_wp2_with fail
  rw [hu.out]
  go_wp2
  go_loop [11] (fun i => ∃ k : Nat, k ≤ n ∧ i = .int .i64 k) (fun i => n - (intOf i).toNat)
  case atStart => exact ⟨0, by omega, rfl⟩
  case round =>
    obtain ⟨k, hk, rfl⟩ := hrel
    by_cases hkn : k < n
    · have kn : (k : Int) < (n : Int) := by omega
      obtain ⟨b, off, C, cap, rfl, hb, h1, hsp, hcb, hj⟩ := HU.out.at hkn
      obtain ⟨cbk, cof, csp⟩ := C
      dsimp only at hsp hcb hj
      subst hsp
      have HJ := Lib.hid hj
      clear hj
      go_wp2
      go_loop [18] (fun i => ∃ q : Nat, q ≤ n ∧ i = .int .i64 q) (fun i => n - (intOf i).toNat)
      case atStart => exact ⟨0, by omega, rfl⟩
      case round =>
        obtain ⟨q, hq, rfl⟩ := hrel
        by_cases hqn : q < n
        · have qn : (q : Int) < (n : Int) := by omega
          have hx := HJ.out q hqn
          have hbd := HU.out.ok.bnd k q (by have := HU.out.hn; omega) (by have := HU.out.hn; omega)
          have hdi : k = q → mAt M k q = 0 := fun e => by rw [← e]; exact HU.out.ok.dia k (by have := HU.out.hn; omega)
          obtain ⟨x, hxx⟩ : ∃ x, Hid (mAt M k q = x) := ⟨_, Lib.hid rfl⟩
          rw [hxx.out] at hx hbd hdi
          have hr : rngE x (-1) 10000 = 0 := rngE_t (inB_true hbd.1 hbd.2)
          by_cases e : k = q
          · have hx0 : x = 0 := hdi e
            subst hx0
            subst e
            clear hdi hbd hxx
            go_wp2_with ((go_at_call 87; ((with_reducible refine (cRange_any _ _ _ _).mono ?_)); rintro e w' ⟨rfl, rfl⟩))
            go_round
            case rel => exact ⟨k + 1, by omega, by go_num⟩
            case measure => (simp [intOf]) <;> omega
          · have e1 : ((k : Int) == (q : Int)) = false := by simpa using (by omega : ¬ (k : Int) = (q : Int))
            have e2 : ¬ (k : Int) = (q : Int) := by omega
            clear hdi hbd e hxx
            go_wp2_with ((go_at_call 87; ((with_reducible refine (cRange_any _ _ _ _).mono ?_)); rintro e w' ⟨rfl, rfl⟩))
            go_round
            case rel => exact ⟨q + 1, by omega, by go_num⟩
            case measure => (simp [intOf]) <;> omega
        · go_wp2
          go_round
          case rel => exact ⟨k + 1, by omega, by go_num⟩
          case measure => (simp [intOf]) <;> omega
    · go_wp2
      go_ret
      exact ⟨rfl, HB.out⟩
theorem namedSl_is (L : List ByteArray) (A : Option Addr) (cap len : Nat) (w : World) (hlen : Hid (len = L.length)) (hl0 : 0 < len) (hl : len ≤ 1000000) (hsz : Hid (∀ s ∈ L, s.size ≤ 1000000)) (HP : Hid (SlRows strV 1 w A L)) (hE : Hid (nmlE [] L = 0)) :
    Calls Tryz.prog 96 #[.slice A len cap, .func (.func 94) #[] #[], .func (.func 95) #[] #[]] w fun e w' => e = .returned (.int .i64 0) ∧ Below w.heap.size w w' := by
  rcases HP.out with h0 | ⟨b, off, rfl, hlt, h⟩
  · have := hlen.out; rw [h0] at this; simp at this; omega
  · exact namedNames_is L b off cap len 0 w hlen hl hsz hlt (Lib.hid h) hE
set_option maxRecDepth 100000 in
set_option maxHeartbeats 1000000 in
theorem CheckChart_ok (A B : Option Addr) (n ca cb : Nat) (Pl : List ByteArray) (M : List (List Int)) (w : World) (hl0 : 0 < n) (hl : n ≤ 12) (HC : Hid (ChSl w A B n Pl M)) :
    Calls Tryz.prog 46 #[.agg #[.slice A n ca, .slice B n cb]] w fun e w' => e = .returned (.int .i64 0) ∧ Below w.heap.size w w' := by
  have i0 : ¬ (12 : Int) < (n : Int) := by omega
  go_enter Tryz.func46, Tryz.ntmps46
  go_wp2_with fail
  have hB0 : Below w.heap.size w (w.alloc (.cells #[.slice A n ca, .slice B n cb] 78)) := (Below.refl _ _).alloc (Nat.le_refl _) _
  refine (namedSl_is Pl A ca n _ (Lib.hid HC.out.hn) hl0 (by omega) (Lib.hid HC.out.ok.siz) (Lib.hid (HC.out.pl.below hB0)) (Lib.hid HC.out.ok.nms)).mono ?_
  rintro e w1 ⟨rfl, hb1⟩
  have z1 := hb1.size
  try simp at z1
  have g0 : w1.cell? ⟨w.heap.size, 0, none⟩ = some (.slice A n ca) := by rw [(bcell hb1).1 _ _ (by simp)]; simp [go_sem]
  have g1 : w1.cell? ⟨w.heap.size, 1, none⟩ = some (.slice B n cb) := by rw [(bcell hb1).1 _ _ (by simp)]; simp [go_sem]
  have hB1 : Below w.heap.size w w1 := hB0.trans (hb1.mono hB0.size)
  have HB1 := Lib.hid hB1
  have HC1 := Lib.hid (HC.out.below hB1)
  have hmf : ∀ (fn : Fn) (first cap : Array Value) (w : World), (Instr.makeFunc fn first cap).run Tryz.prog w = .ok (.func fn first cap) w := fun _ _ _ _ => rfl
  clear hb1 hB0 hB1
  go_wp2_with fail
  refine (containsRows_is A B A n cb ca w.heap.size Pl M _ hl HC1 g0).mono ?_
  rintro e w2 ⟨rfl, rfl⟩
  go_wp2_with fail
  refine (checkMinutes_is A B n ca cb Pl M _ hl HC1).mono ?_
  rintro e w3 ⟨rfl, hb3⟩
  have HB3 := Lib.hid (HB1.out.trans (hb3.mono HB1.out.size))
  clear hb3
  go_wp2
  go_ret
  exact ⟨rfl, HB3.out⟩
end Go.Proofs.YtojaompfffpofaaGreat

namespace Go.Proofs.YtojaompfffpofaaGreat
open Go.ChangeShapes Go.WideShapes Go.ChangeAt Go.RowKit
set_option linter.unusedVariables false
set_option linter.unusedSimpArgs false
attribute [local go_sem ↓] Go.wp_at_zero Go.wp_at_succ
/-- A way: its places, none where there is none, and its minutes. -/
structure Tp where
  ps : List Int
  mi : Int
instance : Inhabited Tp := ⟨⟨[], 0⟩⟩
def gTake (T : List Tp) (b t : Nat) (m : Int) : Bool := !(m == -1) && ((T.getD t default).ps.isEmpty || decide ((T.getD b default).mi + m < (T.getD t default).mi))
def gStep (T : List Tp) (b t : Nat) (m : Int) : List Tp := if gTake T b t m = true then T.set t ⟨(T.getD b default).ps ++ [(t : Int)], (T.getD b default).mi + m⟩ else T
def gRow (T : List Tp) (b : Nat) (R : List Int) : Nat → List Tp
  | 0 => T
  | k + 1 => gStep (gRow T b R k) b k (R.getD k 0)
def gOn (T : List Tp) (b : Nat) (R : List Int) : List Tp := if (T.getD b default).ps.isEmpty = true then T else gRow T b R R.length
def gAll (T : List Tp) (M : List (List Int)) : Nat → List Tp
  | 0 => T
  | k + 1 => gOn (gAll T M k) k (M.getD k [])
def gRnd (T : List Tp) (M : List (List Int)) (n : Nat) : Nat → List Tp
  | 0 => T
  | r + 1 => gAll (gRnd T M n r) M n
theorem getD_set_eq {T : List Tp} {t : Nat} {x : Tp} (h : t < T.length) : (T.set t x).getD t default = x := by
  rw [getD_at (by simpa using h)]; simp
theorem getD_set_ne {T : List Tp} {t k : Nat} {x : Tp} (h : t ≠ k) : (T.set t x).getD k default = T.getD k default := by
  rw [List.getD_eq_getElem?_getD, List.getD_eq_getElem?_getD, List.getElem?_set_ne h]
theorem gStep_len (T : List Tp) (b t : Nat) (m : Int) : (gStep T b t m).length = T.length := by unfold gStep; split <;> simp
theorem gRow_len (T : List Tp) (b : Nat) (R : List Int) : ∀ k, (gRow T b R k).length = T.length
  | 0 => rfl
  | k + 1 => by rw [gRow, gStep_len, gRow_len T b R k]
theorem gOn_len (T : List Tp) (b : Nat) (R : List Int) : (gOn T b R).length = T.length := by unfold gOn; split; rfl; exact gRow_len _ _ _ _
theorem gAll_len (T : List Tp) (M : List (List Int)) : ∀ k, (gAll T M k).length = T.length
  | 0 => rfl
  | k + 1 => by rw [gAll, gOn_len, gAll_len T M k]
theorem gRnd_len (T : List Tp) (M : List (List Int)) (n : Nat) : ∀ k, (gRnd T M n k).length = T.length
  | 0 => rfl
  | k + 1 => by rw [gRnd, gAll_len, gRnd_len T M n k]
theorem gStep_ne {T : List Tp} {b t : Nat} {m : Int} (ht : t < T.length) {k : Nat} (h : (T.getD k default).ps ≠ []) : ((gStep T b t m).getD k default).ps ≠ [] := by
  unfold gStep
  split
  · by_cases e : t = k
    · subst e; rw [getD_set_eq ht]; simp
    · rw [getD_set_ne e]; exact h
  · exact h
theorem gRow_ne {T : List Tp} {b : Nat} {R : List Int} {q : Nat} (h : (T.getD q default).ps ≠ []) : ∀ k, k ≤ T.length → ((gRow T b R k).getD q default).ps ≠ []
  | 0, _ => h
  | k + 1, hk => gStep_ne (by rw [gRow_len]; omega) (gRow_ne h k (by omega))
/-- Bounds of ways. -/
def TpB (c : Nat) (T : List Tp) : Prop := ∀ k, (T.getD k default).ps.length ≤ c ∧ 0 ≤ (T.getD k default).mi ∧ (T.getD k default).mi ≤ 10000 * (c : Int)
theorem TpB.up {c d : Nat} {T : List Tp} (h : TpB c T) (hd : c ≤ d) : TpB d T := fun k => ⟨by have := (h k).1; omega, (h k).2.1, by have := (h k).2.2; omega⟩
theorem TpB.step {c : Nat} {T : List Tp} (h : TpB c T) {b t : Nat} {m : Int} (h1 : -1 ≤ m) (h2 : m ≤ 10000) : TpB (c + 1) (gStep T b t m) := by
  unfold gStep
  split
  · rename_i ht
    have hm : m ≠ -1 := by
      intro e
      unfold gTake at ht
      rw [e] at ht
      simp at ht
    intro k
    by_cases e : t = k
    · subst e
      by_cases ht2 : t < T.length
      · rw [getD_set_eq ht2]
        obtain ⟨b1, b2, b3⟩ := h b
        generalize T.getD b default = x at *
        refine ⟨by simp only [List.length_append, List.length_cons, List.length_nil]; omega, ?_, ?_⟩ <;> dsimp only <;> omega
      · rw [List.set_eq_of_length_le (by omega)]; exact (h.up (Nat.le_succ c)) t
    · rw [getD_set_ne e]; exact (h.up (Nat.le_succ c)) k
  · exact h.up (Nat.le_succ c)
theorem TpB.row {c : Nat} {T : List Tp} (h : TpB c T) {b : Nat} {R : List Int} (hR : ∀ j, -1 ≤ R.getD j 0 ∧ R.getD j 0 ≤ 10000) : ∀ k, TpB (c + k) (gRow T b R k)
  | 0 => h
  | k + 1 => (h.row hR k).step (hR k).1 (hR k).2
theorem TpB.on {c : Nat} {T : List Tp} (h : TpB c T) {b : Nat} {R : List Int} (hR : ∀ j, -1 ≤ R.getD j 0 ∧ R.getD j 0 ≤ 10000) : TpB (c + R.length) (gOn T b R) := by
  unfold gOn
  split
  · exact h.up (by omega)
  · exact h.row hR _
/-- Ways in memory: the block of the records, each with a row of its own. -/
structure TrAt (w : World) (tb N : Nat) (T : List Tp) : Prop where
  row : ∀ k, k < T.length → w.cell? ⟨tb, k * 2 + 1, none⟩ = some (.int .i64 (T.getD k default).mi) ∧
    (((T.getD k default).ps = [] ∧ w.cell? ⟨tb, k * 2, none⟩ = some (.slice none 0 0)) ∨
      ((T.getD k default).ps ≠ [] ∧ ∃ g cap, w.cell? ⟨tb, k * 2, none⟩ = some (.slice (some ⟨g, 0, none⟩) (T.getD k default).ps.length cap) ∧ N ≤ g ∧ g ≠ tb ∧ g < w.heap.size ∧ RowsAt intV 1 w g 0 (T.getD k default).ps))
  lt : tb < w.heap.size
  fr : ∀ j, w.frozen? ⟨tb, j, none⟩ = false
theorem cell_offT {w : World} {b c i j : Nat} {v : Value} (h : b ≠ c ∨ i ≠ j) : (w.setCell ⟨b, i, none⟩ v).cell? ⟨c, j, none⟩ = w.cell? ⟨c, j, none⟩ := by
  refine World.cell?_setCell_other _ _ _ _ (fun e => ?_)
  injection e with e1 e2
  rcases h with h | h
  · exact h e1
  · exact h e2
theorem cell_sameT {w : World} {b i : Nat} {u v : Value} (h : w.cell? ⟨b, i, none⟩ = some v) : (w.setCell ⟨b, i, none⟩ u).cell? ⟨b, i, none⟩ = some u := World.cell?_setCell_same' _ _ _ (by rw [h]; rfl)
theorem TrAt.set {w : World} {tb N : Nat} {T : List Tp} (h : TrAt w tb N T) {t : Nat} (ht : t < T.length) {g cap n : Nat} {P : List Int} {mi : Int} (hn : n = P.length) (hP : P ≠ []) (hg : N ≤ g) (hgt : g ≠ tb) (hgl : g < w.heap.size) (hR : RowsAt intV 1 w g 0 P) :
    TrAt ((w.setCell ⟨tb, t * 2, none⟩ (.slice (some ⟨g, 0, none⟩) n cap)).setCell ⟨tb, t * 2 + 1, none⟩ (.int .i64 mi)) tb N (T.set t ⟨P, mi⟩) := by
  subst hn
  have off : ∀ b i, b ≠ tb → ((w.setCell ⟨tb, t * 2, none⟩ (.slice (some ⟨g, 0, none⟩) P.length cap)).setCell ⟨tb, t * 2 + 1, none⟩ (.int .i64 mi)).cell? ⟨b, i, none⟩ = w.cell? ⟨b, i, none⟩ := fun b i hb => by
    rw [cell_offT (Or.inl (Ne.symm hb)), cell_offT (Or.inl (Ne.symm hb))]
  obtain ⟨z1, z2⟩ := h.row t ht
  refine ⟨fun k hk => ?_, by simpa using h.lt, fun j => by rw [World.frozen?_setCell, World.frozen?_setCell]; exact h.fr j⟩
  have hk' : k < T.length := by simpa using hk
  by_cases e : t = k
  · subst e
    rw [getD_set_eq ht]
    refine ⟨?_, Or.inr ⟨hP, g, cap, ?_, hg, hgt, by simpa using hgl, ?_⟩⟩
    · exact cell_sameT (v := .int .i64 (T.getD t default).mi) (by rw [cell_offT (Or.inr (by omega))]; exact z1)
    · rw [cell_offT (Or.inr (by omega))]
      rcases z2 with ⟨_, z2⟩ | ⟨_, g', cap', z2, _⟩
      · exact cell_sameT z2
      · exact cell_sameT z2
    · intro k hk i hi; rw [off _ _ hgt]; exact hR k hk i hi
  · rw [getD_set_ne e]
    obtain ⟨y1, y2⟩ := h.row k hk'
    refine ⟨by rw [cell_offT (Or.inr (by omega)), cell_offT (Or.inr (by omega))]; exact y1, ?_⟩
    rcases y2 with ⟨p, y2⟩ | ⟨p, g', cap', y2, q1, q2, q3, q4⟩
    · exact Or.inl ⟨p, by rw [cell_offT (Or.inr (by omega)), cell_offT (Or.inr (by omega))]; exact y2⟩
    · exact Or.inr ⟨p, g', cap', by rw [cell_offT (Or.inr (by omega)), cell_offT (Or.inr (by omega))]; exact y2, q1, q2, by simpa using q3, fun k hk i hi => by rw [off _ _ q2]; exact q4 k hk i hi⟩
theorem TrAt.below {w w' : World} {tb N : Nat} {T : List Tp} (h : TrAt w tb N T) (hb : Below w.heap.size w w') : TrAt w' tb N T := by
  have z := hb.size
  refine ⟨fun k hk => ?_, by have := h.lt; omega, fun j => (hb.frozen (p := ⟨tb, j, none⟩) h.lt).trans (h.fr j)⟩
  obtain ⟨y1, y2⟩ := h.row k hk
  refine ⟨(hb.cell (p := ⟨tb, _, none⟩) h.lt).trans y1, ?_⟩
  rcases y2 with ⟨p, y2⟩ | ⟨p, g', cap', y2, q1, q2, q3, q4⟩
  · exact Or.inl ⟨p, (hb.cell (p := ⟨tb, _, none⟩) h.lt).trans y2⟩
  · exact Or.inr ⟨p, g', cap', (hb.cell (p := ⟨tb, _, none⟩) h.lt).trans y2, q1, q2, by omega, q4.below hb q3⟩
theorem eqI0 (w : World) : (binOp .eql 81 (.slice none 0 0) (.slice none 0 0)).run Tryz.prog w = .ok (.bool true) w := by kernel_rfl
theorem eqI1 (a : Addr) (n c : Nat) (w : World) : (binOp .eql 81 (.slice (some a) n c) (.slice none 0 0)).run Tryz.prog w = .ok (.bool false) w := by kernel_rfl
theorem infoIn : (Tryz.prog.info? 3).map (fun i => (i.zero, i.size, i.bytes)) = some (some (.int .i64 0), 1, 8) := by kernel_rfl
theorem intV_one : ∀ g, ∀ u ∈ intV g, u.oneCell' = true := by
  intro g u hu
  simp [intV] at hu
  rw [hu]; rfl
/-- A copy of numbers in a row of its own. -/
def CloP (P : List Int) (n : Nat) (w : World) (e : Ending) (w' : World) : Prop := ∃ v, e = .returned v ∧ w'.ownsRow w.heap.size 3 1 v n (rowsV intV P) ∧ Below w.heap.size w w'
set_option maxRecDepth 100000 in
theorem cloneInt_is (P : List Int) (g cap n : Nat) (w : World) (hn : Hid (n = P.length)) (hl : n ≤ 100000) (hg : g < w.heap.size) (HR : Hid (RowsAt intV 1 w g 0 P)) :
    Calls Tryz.prog 149 #[.slice (some ⟨g, 0, none⟩) n cap] w (CloP P n w) := by
  have hB0 : Below w.heap.size w (w.alloc (.cells #[] 3)) := (Below.refl _ _).alloc (Nat.le_refl _) _
  have HC := Lib.hid (rowsV_cells (f := intV) (n := 1) (fun _ => rfl) (by decide) (HR.out.below hB0 hg))
  have HO := Lib.hid (World.ownsRow_made (base := w.heap.size) (e := 3) (size := 1) w #[] 0 (Nat.le_refl _) (by simp) (by simp))
  obtain ⟨i0, hi, hz0, hz1, hz2⟩ := info_partsS infoIn
  have HI := Lib.hid hi
  have HZ0 := Lib.hid hz0
  have HZ1 := Lib.hid hz1
  have HZ2 := Lib.hid hz2
  have HL := Lib.hid (rowsV_len (f := intV) (n := 1) (fun _ => rfl) P)
  rw [← hn.out] at HL
  have HF := Lib.hid (rows_one intV_one P)
  clear hi hz0 hz1 hz2 hB0
  have hen := eqI1 ⟨g, 0, none⟩ n cap
  go_enter Tryz.func149, Tryz.ntmps149
  go_wp2_with (at_builtin; refine wpList_append_own_at _ rfl _ _ 81 rfl w.heap.size 3 i0 (.int .i64 0) 1 8 Tryz.underlying81 HI.out HZ0.out HZ1.out HZ2.out rfl (by decide) _ 0 [] rfl HO.out ⟨g, 0, none⟩ n cap (rowsV intV P) rfl HL.out HC.out HF.out ?c1 ?c2 ?c3 ?_)
  case c1 => unfold maxLen; omega
  case c2 => omega
  case c3 => simp
  intro v' w1 hown hgrow _ hblk
  have hB : Below w.heap.size w w1 := ((Below.refl w.heap.size w).alloc (Nat.le_refl _) _).grown hgrow (by simp) (by intro k hk; simp [Value.ownBlock] at hk; omega)
  (try simp only [Nat.zero_add, List.nil_append] at hown)
  have HO1 := Lib.hid hown
  have HB := Lib.hid hB
  clear hown hgrow hblk hB
  go_wp2
  go_ret
  exact ⟨_, rfl, HO1.out, HB.out⟩
end Go.Proofs.YtojaompfffpofaaGreat

namespace Go.Proofs.YtojaompfffpofaaGreat
open Go.ChangeShapes Go.WideShapes Go.ChangeAt Go.RowKit
set_option linter.unusedVariables false
set_option linter.unusedSimpArgs false
attribute [local go_sem ↓] Go.wp_at_zero Go.wp_at_succ
/-- The ways behind a call. -/
def GoP (tb N : Nat) (T : List Tp) (w : World) (e : Ending) (w' : World) : Prop := e = .returned (.tuple #[]) ∧ TrAt w' tb N T ∧ BelowE tb w.heap.size w w'
theorem isE_t {L : List Int} (h : L = []) : L.isEmpty = true := by rw [h]; rfl
theorem isE_f {L : List Int} (h : L ≠ []) : L.isEmpty = false := by cases L with | nil => exact absurd rfl h | cons a r => rfl
theorem own_rows {α : Type} {f : α → List Value} {n : Nat} (hf : ∀ g, (f g).length = n) {w : World} {base : Nat} {e : TypeId} {v : Value} {L : List α} (h : w.ownsRow base e n v L.length (rowsV f L)) (hL : L ≠ []) : ∃ g cap, v = .slice (some ⟨g, 0, none⟩) L.length cap ∧ base ≤ g ∧ g < w.heap.size ∧ RowsAt f n w g 0 L := by
  rcases h.2 with ⟨rfl, h0⟩ | ⟨g, cap, cur, rfl, hb, hg, hle, hcap, hs, ht⟩
  · exact absurd (List.eq_nil_of_length_eq_zero h0) hL
  · refine ⟨g, cap, rfl, hb, (Array.getElem?_eq_some_iff.1 hg).1, ?_⟩
    intro k hk i hi
    have c := World.ownsRow.cells h (g := g) rfl
    have hlt : i < (f L[k]).length := by rw [hf]; exact hi
    have q := rowsV_at hf hk hi
    rw [List.getElem?_eq_getElem hlt] at q
    have r := c _ _ q
    rw [addNR] at r
    rw [show 0 + k * n + i = 0 + (k * n + i) by omega, r, List.getElem?_eq_getElem hlt]
set_option maxRecDepth 100000 in
set_option maxHeartbeats 4000000 in
theorem goOn_is (T : List Tp) (R : List Int) (tb b n cap N c rb ro rcap : Nat) (w : World) (hT : Hid (T.length = n)) (hR : Hid (R.length = n)) (hl : n ≤ 12) (hb : b < n) (HA : Hid (TrAt w tb N T)) (HBd : Hid (TpB c T)) (hc : c ≤ 5000) (HR : Hid (RowsAt intV 1 w rb ro R)) (hrb : rb < w.heap.size) (hrt : rb ≠ tb) (HX : Hid (∀ j, -1 ≤ R.getD j 0 ∧ R.getD j 0 ≤ 10000)) (hN : N ≤ w.heap.size) :
    Calls Tryz.prog 127 #[.slice (some ⟨tb, 0, none⟩) n cap, .int .i64 b, .slice (some ⟨rb, ro, none⟩) n rcap] w (GoP tb N (gOn T b R) w) := by
  obtain ⟨i0, hi, hz0, hz1, hz2⟩ := info_partsS infoIn
  have HI := Lib.hid hi
  have HZ0 := Lib.hid hz0
  have HZ1 := Lib.hid hz1
  have HZ2 := Lib.hid hz2
  clear hi hz0 hz1 hz2
  have bn : (b : Int) < (n : Int) := by omega
  have E0 := eqI0
  have E1 := eqI1
  obtain ⟨y1, y2⟩ := HA.out.row b (by have := hT.out; omega)
  rcases y2 with ⟨hp, y2⟩ | ⟨hp, g, gc, y2, gN, gt, gl, gR⟩
  · have HG : Hid (gOn T b R = T) := Lib.hid (by unfold gOn; rw [if_pos (isE_t hp)])
    clear hp y1
    go_enter Tryz.func127, Tryz.ntmps127
    go_wp2
    exact bodyPost_ret (v := .tuple #[]) (by simp [results, Tryz.results127, go_sem]) rfl ⟨rfl, by rw [HG.out]; exact HA.out, BelowE.refl _ _ _⟩
  have HG : Hid (gOn T b R = gRow T b R n) := Lib.hid (by unfold gOn; rw [if_neg (by rw [isE_f hp]; exact Bool.false_ne_true), hR.out])
  have HP := Lib.hid hp
  clear gR y1 hp
  go_enter Tryz.func127, Tryz.ntmps127
  go_wp2
  go_loopw [17] (fun i wr => ∃ k : Nat, k ≤ n ∧ i = .int .i64 k ∧ Hid (TrAt wr tb N (gRow T b R k)) ∧ Hid (BelowE tb w.heap.size w wr)) (fun i _ => n - (intOf i).toNat)
  case atStart => exact ⟨0, by omega, rfl, HA, Lib.hid (BelowE.refl _ _ _)⟩
  case round =>
    clear y2
    obtain ⟨k, hk, rfl, HAk, HBk⟩ := hrel
    have hsz := HBk.out.size
    by_cases hkn : k < n
    · have kn : (k : Int) < (n : Int) := by omega
      have hkR : k < R.length := by have := hR.out; omega
      have c0 := HR.out k hkR 0 (by omega)
      rw [show (intV R[k])[0]? = some (.int .i64 R[k]) from rfl, Nat.add_zero, Nat.mul_one, ← getD_at (d := 0) hkR] at c0
      have cr := (HBk.out.cell (b := rb) (i := ro + k) hrb hrt).trans c0
      have hx := HX.out k
      have hLk : (gRow T b R k).length = n := by rw [gRow_len]; exact hT.out
      have hnx : gRow T b R (k + 1) = gStep (gRow T b R k) b k (R.getD k 0) := rfl
      have hpb : ((gRow T b R k).getD b default).ps ≠ [] := gRow_ne HP.out k (by have := hT.out; omega)
      have hbk := HBd.out.row HX.out (b := b) k
      obtain ⟨S, hS⟩ : ∃ S, Hid (gRow T b R k = S) := ⟨_, Lib.hid rfl⟩
      rw [hS.out] at hLk hnx hpb hbk
      have HAS : Hid (TrAt wr tb N S) := Lib.hid (by rw [← hS.out]; exact HAk.out)
      obtain ⟨m, hm⟩ : ∃ m, Hid (R.getD k 0 = m) := ⟨_, Lib.hid rfl⟩
      rw [hm.out] at c0 cr hx hnx
      obtain ⟨x1, x2⟩ := hx
      obtain ⟨b1, b2, b3⟩ := hbk b
      obtain ⟨u1, u2⟩ := HAS.out.row b (by omega)
      obtain ⟨v1, v2⟩ := HAS.out.row k (by omega)
      have hlt := HAS.out.lt
      have hfr := HAS.out.fr
      have HNX := Lib.hid hnx
      have HLK := Lib.hid hLk
      rcases u2 with ⟨hpb0, _⟩ | ⟨_, gb, gbc, u2, gbN, gbt, gbl, gbR⟩
      · exact absurd hpb0 hpb
      have HPB := Lib.hid hpb
      have HGBR := Lib.hid gbR
      clear hnx hpb hbk c0 hLk gbR
      obtain ⟨P, hP⟩ : ∃ P, Hid ((S.getD b default).ps = P) := ⟨_, Lib.hid rfl⟩
      obtain ⟨p, hp⟩ : ∃ p : Nat, Hid (P.length = p) := ⟨_, Lib.hid rfl⟩
      obtain ⟨mi, hmi⟩ : ∃ mi, Hid ((S.getD b default).mi = mi) := ⟨_, Lib.hid rfl⟩
      obtain ⟨mk, hmk⟩ : ∃ mk, Hid ((S.getD k default).mi = mk) := ⟨_, Lib.hid rfl⟩
      rw [hP.out, hp.out] at u2
      rw [hP.out, hp.out] at b1
      rw [hmi.out] at u1 b2 b3
      rw [hmk.out] at v1
      rw [hP.out] at HPB HGBR
      have w1 : IntKind.i64.wrap (mi + m) = mi + m := IntWalk.i64_in _ (by omega)
      -- nothing is taken
      have stay : Hid (gTake S b k m = false) → Hid (TrAt wr tb N (gRow T b R (k + 1))) := fun h => Lib.hid (by rw [HNX.out, gStep, if_neg (by rw [h.out]; exact Bool.false_ne_true)]; exact HAS.out)
      have STAY := Lib.hid stay
      -- it is taken
      have take : Hid (gTake S b k m = true) → ∀ (x5 : World) (g5 cap5 : Nat), Below wr.heap.size wr x5 → wr.heap.size ≤ g5 → g5 < x5.heap.size → RowsAt intV 1 x5 g5 0 (P ++ [(k : Int)]) → TrAt ((x5.setCell ⟨tb, k * 2, none⟩ (.slice (some ⟨g5, 0, none⟩) (p + 1) cap5)).setCell ⟨tb, k * 2 + 1, none⟩ (.int .i64 (mi + m))) tb N (gRow T b R (k + 1)) ∧ BelowE tb w.heap.size w ((x5.setCell ⟨tb, k * 2, none⟩ (.slice (some ⟨g5, 0, none⟩) (p + 1) cap5)).setCell ⟨tb, k * 2 + 1, none⟩ (.int .i64 (mi + m))) := fun h x5 g5 cap5 hb5 hg5 hl5 hr5 => by
        have e1 : gRow T b R (k + 1) = S.set k ⟨P ++ [(k : Int)], mi + m⟩ := by rw [HNX.out, gStep, if_pos h.out, hP.out, hmi.out]
        rw [e1]
        refine ⟨(HAS.out.below hb5).set (by rw [HLK.out]; exact hkn) (by rw [List.length_append, hp.out]; rfl) (by simp) (by omega) (by omega) hl5 hr5, ?_⟩
        refine (HBk.out.trans (BelowE.of hb5 hsz)).trans ⟨rfl, rfl, rfl, by simp, fun i hi hne => ?_⟩
        rw [Below.heap_setCell _ _ _ _ hne, Below.heap_setCell _ _ _ _ hne]
      have TAKE := Lib.hid take
      clear stay take HAk
      by_cases e : m = -1
      · subst e
        have HS := STAY.out (Lib.hid (by unfold gTake; simp))
        clear v2 w1
        go_wp2
        go_roundw
        case rel => exact ⟨k + 1, by omega, by go_num, HS, HBk⟩
        case measure => (simp [intOf]) <;> omega
      have m0 : 0 ≤ m := by omega
      have n1 : (m == -1) = false := by simpa using e
      have n2 : (m != -1) = true := by simp [n1, bne]
      have hnew := HPB.out
      by_cases hq : (S.getD k default).ps = [] ∨ mi + m < mk
      · have HT : Hid (gTake S b k m = true) := Lib.hid (by
          unfold gTake
          rw [n1, hmi.out, hmk.out]
          rcases hq with h | h
          · rw [isE_t h]; simp
          · rw [decide_eq_true h]; simp)
        have hclo := cloneInt_is P gb gbc p
        have HCLO := Lib.hid hclo
        clear hclo hnew
        have hv2 : (w' : World) → w' = wr → ((w'.cell? ⟨tb, k * 2, none⟩ = some (.slice none 0 0)) ∨ (∃ g cap l, w'.cell? ⟨tb, k * 2, none⟩ = some (.slice (some ⟨g, 0, none⟩) l cap) ∧ mi + m < mk)) := by
          intro w' hw; subst hw
          rcases v2 with ⟨h1, h2⟩ | ⟨h1, g, cp, h2, _⟩
          · exact Or.inl h2
          · rcases hq with h | h
            · exact absurd h h1
            · exact Or.inr ⟨g, cp, _, h2, h⟩
        rcases hv2 wr rfl with v3 | ⟨gg, gcap, ll, v3, hlt2⟩
        all_goals
          clear hv2 v2 hq
          go_wp2_with fail
          refine (HCLO.out _ (Lib.hid hp.out.symm) (by omega) gbl HGBR).mono ?_
          rintro e x1 ⟨v, rfl, hown, hb1⟩
          have s1 := hb1.size
          have HO1 := Lib.hid hown
          have HB1 := Lib.hid hb1
          clear hown hb1
          go_wp2_with (at_builtin; refine wpList_append_own_at _ rfl _ _ 81 rfl wr.heap.size 3 i0 (.int .i64 0) 1 8 Tryz.underlying81 HI.out HZ0.out HZ1.out HZ2.out rfl (by decide) _ _ _ rfl (own_below (N := x1.heap.size) HO1.out (by exact (by (repeat (first | (with_reducible refine Below.drew ?_) | (with_reducible refine below_drewN ?_ _) | (with_reducible refine Below.alloc ?_ (by first | omega | (simp; done) | (simp; omega) | (simp at *; omega)) _) | (with_reducible refine Below.setCell ?_ (by first | omega | (simp; done) | (simp; omega) | (simp at *; omega)) _) | (with_reducible exact Below.refl _ _) | (with_reducible assumption) | (with_reducible refine Below.trans ?_ (Below.mono (by assumption) (by first | omega | (simp; done) | (simp; omega) | (simp at *; omega)))))))) (Nat.le_refl _)) ⟨x1.heap.size, 0, none⟩ 1 1 [.int .i64 k] rfl rfl ?a0 ?a1 ?a2 ?a3 ?a4 ?_)
          case a0 =>
            intro j v hj
            match j, hj with
            | 0, hj => simp at hj; subst hj; simp [Addr.add, go_sem]
          case a1 => intro v hv; simp at hv; rw [hv]; rfl
          case a2 => unfold maxLen; omega
          case a3 => omega
          case a4 => simp; omega
          intro v' x5 hown hgrow hnn hblk
          have hb1 := HB1.out
          have hB5 : Below wr.heap.size wr x5 := Below.grown (by exact (by (repeat (first | (with_reducible refine Below.drew ?_) | (with_reducible refine below_drewN ?_ _) | (with_reducible refine Below.alloc ?_ (by first | omega | (simp; done) | (simp; omega) | (simp at *; omega)) _) | (with_reducible refine Below.setCell ?_ (by first | omega | (simp; done) | (simp; omega) | (simp at *; omega)) _) | (with_reducible exact Below.refl _ _) | (with_reducible assumption) | (with_reducible refine Below.trans ?_ (Below.mono (by assumption) (by first | omega | (simp; done) | (simp; omega) | (simp at *; omega)))))))) hgrow (by simp; omega) (fun r hr => (own_block HO1.out r hr).1)
          have hown2 : x5.ownsRow wr.heap.size 3 1 v' (P ++ [(k : Int)]).length (rowsV intV (P ++ [(k : Int)])) := by rw [rowsV_app, List.length_append, hp.out]; exact hown
          obtain ⟨g5, cap5, hv5, hg5, hl5, hr5⟩ := own_rows (f := intV) (n := 1) (fun _ => rfl) hown2 (by simp)
          rw [List.length_append, hp.out] at hv5
          simp only [List.length_cons, List.length_nil, Nat.zero_add] at hv5
          subst hv5
          have HTK := Lib.hid (TAKE.out HT x5 g5 cap5 hB5 hg5 hl5 hr5)
          have d1 := (hB5.cell (p := ⟨tb, k * 2, none⟩) hlt).trans v3
          have d2 := (hB5.cell (p := ⟨tb, k * 2 + 1, none⟩) hlt).trans v1
          have d3 : ∀ j, x5.frozen? ⟨tb, j, none⟩ = false := fun j => (hB5.frozen (p := ⟨tb, j, none⟩) hlt).trans (hfr j)
          clear hown hown2 hgrow hnn hblk hb1 hB5 hg5 hl5 hr5 hfr
          go_wp2
          go_roundw
          case rel => exact ⟨k + 1, by omega, by go_num, Lib.hid HTK.out.1, Lib.hid HTK.out.2⟩
          case measure => (simp [intOf]) <;> omega
      · have HT : Hid (gTake S b k m = false) := Lib.hid (by
          unfold gTake
          rw [n1, hmi.out, hmk.out, isE_f (fun h => hq (Or.inl h)), decide_eq_false (fun h => hq (Or.inr h))]; rfl)
        have HS := STAY.out HT
        rcases v2 with ⟨h1, h2⟩ | ⟨h1, gg, gcap, v3, _⟩
        · exact absurd (Or.inl h1) hq
        have hlt2 : ¬ mi + m < mk := fun h => hq (Or.inr h)
        generalize (S.getD k default).ps.length = ll at *
        clear hq h1
        go_wp2
        go_roundw
        case rel => exact ⟨k + 1, by omega, by go_num, HS, HBk⟩
        case measure => (simp [intOf]) <;> omega
    · have hkk : k = n := by omega
      have HF : Hid (gOn T b R = gRow T b R k) := Lib.hid (by rw [hkk]; exact HG.out)
      clear hkk
      go_wp2
      exact bodyPost_ret (v := .tuple #[]) (by simp [results, Tryz.results127, go_sem]) rfl ⟨rfl, by rw [HF.out]; exact HAk.out, HBk.out⟩
end Go.Proofs.YtojaompfffpofaaGreat
