import Derived.Test.YtojaompfffpofaaGreatZCSChart
import Derived.Outline
namespace Go.Proofs.YtojaompfffpofaaGreat
open Go.ChangeShapes Go.WideShapes Go.ChangeAt Go.RowKit
set_option linter.unusedVariables false
set_option linter.unusedSimpArgs false
attribute [local go_sem ↓] Go.wp_at_zero Go.wp_at_succ
attribute [local go_sem] run_store_fn
/-- The first error of n numbers. -/
def fsN (f : Nat → Int) : Nat → Int
  | 0 => 0
  | k + 1 => if fsN f k = 0 then f k else fsN f k
theorem fsN_stop {f : Nat → Int} {k : Nat} (hz : fsN f k = 0) (hn : f k ≠ 0) : ∀ n, k < n → fsN f n = f k
  | 0, h => by omega
  | n + 1, h => by
    by_cases e : n = k
    · subst e; rw [fsN, if_pos hz]
    · rw [fsN, fsN_stop hz hn n (by omega), if_neg hn]
theorem fsN_on {f : Nat → Int} {k : Nat} (hz : fsN f k = 0) (hn : f k = 0) : fsN f (k + 1) = 0 := by rw [fsN, if_pos hz, hn]
theorem fsN_all {f : Nat → Int} : ∀ {k : Nat}, fsN f k = 0 → ∀ j, j < k → f j = 0
  | 0, _, j, hj => by omega
  | k + 1, h, j, hj => by
    rw [fsN] at h
    by_cases h0 : fsN f k = 0
    · rw [if_pos h0] at h
      by_cases e : j = k
      · rw [e]; exact h
      · exact fsN_all h0 j (by omega)
    · rw [if_neg h0] at h; exact absurd h h0
/-- The error of a number of a chart; of a row; of all. -/
def celE (i j : Nat) (x : Int) : Int := if rngE x (-1) 10000 = 0 then (if i = j ∧ x ≠ 0 then 3 else 0) else 2
def rowE (M : List (List Int)) (n i : Nat) : Int := fsN (fun j => celE i j (mAt M i j)) n
def minsE (M : List (List Int)) (n : Nat) : Int := fsN (rowE M n) n
def othB (n : Nat) (M : List (List Int)) : Bool := M.any (fun r => decide (r.length ≠ n))
def chtE (Pl : List ByteArray) (M : List (List Int)) : Int := if 12 < Pl.length then 8 else if nmlE [] Pl = 0 then (if M.length ≠ Pl.length ∨ othB Pl.length M = true then 10 else minsE M Pl.length) else nmlE [] Pl
theorem othB_f {n : Nat} {M : List (List Int)} (h : ∀ k, k < M.length → (M.getD k []).length = n) : othB n M = false := by
  unfold othB
  rw [List.any_eq_false]
  intro r hr
  obtain ⟨k, hk, rfl⟩ := List.getElem_of_mem hr
  have := h k hk
  rw [getD_at hk] at this
  simpa using this
theorem othB_t {n k : Nat} {M : List (List Int)} (hk : k < M.length) (h : (M.getD k []).length ≠ n) : othB n M = true := by
  unfold othB
  rw [List.any_eq_true]
  rw [getD_at hk] at h
  exact ⟨M[k], List.getElem_mem hk, decide_eq_true h⟩
theorem othB_row {n : Nat} {M : List (List Int)} (h : othB n M = false) : ∀ k, k < M.length → (M.getD k []).length = n := by
  intro k hk
  by_cases e : (M.getD k []).length = n
  · exact e
  · rw [othB_t hk e] at h; cases h
/-- A square of numbers in memory. -/
structure SqAt (w : World) (B : Option Addr) (n : Nat) (M : List (List Int)) : Prop where
  len : M.length = n
  row : ∀ i, i < n → (M.getD i []).length = n
  mn : SlMat w B M
theorem SqAt.below {w w' : World} {B : Option Addr} {n : Nat} {M : List (List Int)} (h : SqAt w B n M) (hb : Below w.heap.size w w') : SqAt w' B n M := ⟨h.len, h.row, h.mn.below hb⟩
theorem SqAt.at {w : World} {B : Option Addr} {n : Nat} {M : List (List Int)} (h : SqAt w B n M) {i : Nat} (hi : i < n) : ∃ b off c o cap, B = some ⟨b, off, none⟩ ∧ b < w.heap.size ∧ w.cell? ⟨b, off + i, none⟩ = some (.slice (some ⟨c, o, none⟩) n cap) ∧ c < w.heap.size ∧ ∀ j, j < n → w.cell? ⟨c, o + j, none⟩ = some (.int .i64 (mAt M i j)) := by
  have hi2 : i < M.length := by rw [h.len]; exact hi
  have hl := h.row i hi
  rcases h.mn with h0 | ⟨b, off, rfl, hlt, hM⟩
  · rw [h0] at hi2; simp at hi2
  obtain ⟨C, cap, h1, h2⟩ := hM i hi2
  rw [hl] at h1
  rcases h2 with h0 | ⟨c, o, rfl, hc, hR⟩
  · rw [h0] at hl; simp at hl; omega
  refine ⟨b, off, c, o, cap, rfl, hlt, h1, hc, fun j hj => ?_⟩
  have hj2 : j < (M.getD i []).length := by rw [hl]; exact hj
  have := hR j hj2 0 (by omega)
  rw [show (intV (M.getD i [])[j])[0]? = some (.int .i64 (M.getD i [])[j]) from rfl, Nat.add_zero, Nat.mul_one] at this
  rw [this]; unfold mAt; rw [getD_at hj2]
theorem otherQ_is (A B : Option Addr) (q n cap cb c : Nat) (p : Bool) (w : World) (hc : w.cell? ⟨c, 0, none⟩ = some (.slice B n cb)) (hp : Hid (decide (q ≠ n) = p)) :
    Calls Tryz.prog 97 #[.slice A q cap, .pointer (some ⟨c, 0, none⟩)] w fun e w' => e = .returned (.bool p) ∧ w = w' := by
  by_cases h : q = n
  · have hr : Hid (false = p) := Lib.hid (by rw [← hp.out]; simp [h])
    subst h
    clear hp
    go_enter Tryz.func97, Tryz.ntmps97
    go_wp2
    go_ret
    exact ⟨by rw [hr.out]; first | rfl | simp, rfl⟩
  · have hr : Hid (true = p) := Lib.hid (by rw [← hp.out]; simp [h])
    have e1 : ¬ (q : Int) = (n : Int) := by omega
    have e2 : ((q : Int) == (n : Int)) = false := by simpa using e1
    have e3 : ((q : Int) != (n : Int)) = true := by simpa using e1
    clear hp
    go_enter Tryz.func97, Tryz.ntmps97
    go_wp2
    go_ret
    exact ⟨by rw [hr.out]; first | rfl | simp [*], rfl⟩
/-- The number of the first row that is no row of n numbers. -/
def IxP (p : Bool) (w : World) (e : Ending) (w' : World) : Prop := w = w' ∧ ((p = true ∧ ∃ k : Nat, e = .returned (.int .i64 k)) ∨ (p = false ∧ e = .returned (.int .i64 (-1))))
set_option maxRecDepth 100000 in
set_option maxHeartbeats 1000000 in
theorem indexRows_any (B E : Option Addr) (m n cap cb c : Nat) (M : List (List Int)) (p : Bool) (w : World) (hm : Hid (m = M.length)) (hl : m ≤ 1000000) (HM : Hid (SlMat w B M)) (hc : w.cell? ⟨c, 0, none⟩ = some (.slice E n cb)) (hp : Hid (othB n M = p)) :
    Calls Tryz.prog 131 #[.slice B m cap, .func (.func 97) #[] #[.pointer (some ⟨c, 0, none⟩)]] w (IxP p w) := by
  go_enter Tryz.func131, Tryz.ntmps131
  go_wp2
  go_loop [8] (fun i => ∃ k : Nat, k ≤ m ∧ i = .int .i64 k ∧ Hid (∀ j, j < k → (M.getD j []).length = n)) (fun i => m - (intOf i).toNat)
  case atStart => exact ⟨0, by omega, rfl, Lib.hid fun j hj => by omega⟩
  case round =>
    obtain ⟨k, hk, rfl, hz⟩ := hrel
    by_cases hkn : k < m
    · have kn : (k : Int) < (m : Int) := by omega
      have hkl : k < M.length := by have := hm.out; omega
      rcases HM.out with h0 | ⟨b, off, rfl, hlt, hMt⟩
      · rw [h0] at hkl; simp at hkl
      obtain ⟨C, cq, h1, _⟩ := hMt k hkl
      obtain ⟨q, hq⟩ : ∃ q, Hid ((M.getD k []).length = q) := ⟨_, Lib.hid rfl⟩
      rw [hq.out] at h1
      clear hMt
      by_cases hqn : q = n
      · have hz2 : Hid (∀ j, j < k + 1 → (M.getD j []).length = n) := Lib.hid fun j hj => by
          by_cases e : j = k
          · rw [e, hq.out, hqn]
          · exact hz.out j (by omega)
        have hd : Hid (decide (q ≠ n) = false) := Lib.hid (by simp [hqn])
        clear hz hq hqn
        go_wp2_with fail
        refine (otherQ_is C E q n cq cb c false _ hc hd).mono ?_
        rintro e w1 ⟨rfl, rfl⟩
        go_wp2
        go_round
        case rel => exact ⟨k + 1, by omega, by go_num, hz2⟩
        case measure => (simp [intOf]) <;> omega
      · have hpt : Hid (p = true) := Lib.hid (by rw [← hp.out]; exact othB_t hkl (by rw [hq.out]; exact hqn))
        have hd : Hid (decide (q ≠ n) = true) := Lib.hid (by simp [hqn])
        clear hz hq
        go_wp2_with fail
        refine (otherQ_is C E q n cq cb c true _ hc hd).mono ?_
        rintro e w1 ⟨rfl, rfl⟩
        go_wp2
        go_ret
        exact ⟨rfl, .inl ⟨hpt.out, k, rfl⟩⟩
    · have hkk : k = m := by omega
      have hpf : Hid (p = false) := Lib.hid (by rw [← hp.out]; exact othB_f fun j hj => hz.out j (by have := hm.out; omega))
      clear hz hkk
      go_wp2
      go_ret
      exact ⟨rfl, .inr ⟨hpf.out, rfl⟩⟩
theorem containsRows_any (B E : Option Addr) (m n cap cb c : Nat) (M : List (List Int)) (p : Bool) (w : World) (hm : Hid (m = M.length)) (hl : m ≤ 1000000) (HM : Hid (SlMat w B M)) (hc : w.cell? ⟨c, 0, none⟩ = some (.slice E n cb)) (hp : Hid (othB n M = p)) :
    Calls Tryz.prog 98 #[.slice B m cap, .func (.func 97) #[] #[.pointer (some ⟨c, 0, none⟩)]] w fun e w' => e = .returned (.bool p) ∧ w = w' := by
  go_enter Tryz.func98, Tryz.ntmps98
  go_wp2_with fail
  refine (indexRows_any B E m n cap cb c M p _ hm hl HM hc hp).mono ?_
  rintro e w1 ⟨rfl, ⟨rfl, k, rfl⟩ | ⟨rfl, rfl⟩⟩
  · go_wp2
    go_ret
    exact ⟨by first | rfl | simp, rfl⟩
  · go_wp2
    go_ret
    exact ⟨rfl, rfl⟩
set_option maxRecDepth 100000 in
set_option maxHeartbeats 2000000 in
theorem checkMinutes_any (A B : Option Addr) (n ca cb : Nat) (M : List (List Int)) (E : Int) (w : World) (hl : n ≤ 12) (HC : Hid (SqAt w B n M)) (hE : Hid (minsE M n = E)) :
    Calls Tryz.prog 99 #[.agg #[.slice A n ca, .slice B n cb]] w fun e w' => e = .returned (.int .i64 E) ∧ Below w.heap.size w w' := by
  obtain ⟨u, hu⟩ : ∃ u, Hid (w.alloc (.cells #[.slice A n ca, .slice B n cb] 78) = u) := ⟨_, Lib.hid rfl⟩
  have hB : Below w.heap.size w u := by rw [← hu.out]; exact (Below.refl _ _).alloc (Nat.le_refl _) _
  have HB := Lib.hid hB
  have HU := Lib.hid (HC.out.below hB)
  have g1 : u.cell? ⟨w.heap.size, 1, none⟩ = some (.slice B n cb) := by rw [← hu.out]; simp [go_sem]
  clear hB
  go_enter Tryz.func99, Tryz.ntmps99
  go_wp2_with fail
  rw [hu.out]
  go_wp2
  go_loop [11] (fun i => ∃ k : Nat, k ≤ n ∧ i = .int .i64 k ∧ Hid (fsN (rowE M n) k = 0)) (fun i => n - (intOf i).toNat)
  case atStart => exact ⟨0, by omega, rfl, Lib.hid rfl⟩
  case round =>
    obtain ⟨k, hk, rfl, hz⟩ := hrel
    by_cases hkn : k < n
    · have kn : (k : Int) < (n : Int) := by omega
      obtain ⟨b, off, c, o, cap, rfl, hb, h1, hcb, hj⟩ := HU.out.at hkn
      have HJ := Lib.hid hj
      clear hj
      go_wp2
      go_loop [18] (fun i => ∃ q : Nat, q ≤ n ∧ i = .int .i64 q ∧ Hid (fsN (fun j => celE k j (mAt M k j)) q = 0)) (fun i => n - (intOf i).toNat)
      case atStart => exact ⟨0, by omega, rfl, Lib.hid rfl⟩
      case round =>
        obtain ⟨q, hq, rfl, hy⟩ := hrel
        by_cases hqn : q < n
        · have qn : (q : Int) < (n : Int) := by omega
          have hx := HJ.out q hqn
          obtain ⟨x, hxx⟩ : ∃ x, Hid (mAt M k q = x) := ⟨_, Lib.hid rfl⟩
          rw [hxx.out] at hx
          have bad : ∀ v : Int, celE k q x = v → v ≠ 0 → E = v := fun v h1 h2 => by
            have h3 : rowE M n k = v := by
              unfold rowE
              rw [fsN_stop hy.out (by rw [hxx.out, h1]; exact h2) n hqn, hxx.out, h1]
            rw [← hE.out]
            unfold minsE
            rw [fsN_stop hz.out (by rw [h3]; exact h2) n hkn, h3]
          rcases inB_cases x (-1) 10000 with hr | hr
          · have hr0 : rngE x (-1) 10000 = 0 := rngE_t hr
            have HR := Lib.hid hr0
            by_cases e : k = q
            · by_cases hx0 : x = 0
              · have hy2 : Hid (fsN (fun j => celE k j (mAt M k j)) (q + 1) = 0) := Lib.hid (fsN_on hy.out (by show celE k q (mAt M k q) = 0; rw [hxx.out]; unfold celE; rw [if_pos hr0, if_neg (fun h => h.2 hx0)]))
                subst hx0
                subst e
                clear hy bad hxx hr hr0
                go_wp2_with ((go_at_call 87; ((with_reducible refine (cRange_any _ _ _ _).mono ?_)); rintro e w' ⟨rfl, rfl⟩))
                go_round
                case rel => exact ⟨k + 1, by omega, by go_num, hy2⟩
                case measure => (simp [intOf]) <;> omega
              · have hr3 : Hid (E = 3) := Lib.hid (bad 3 (by unfold celE; rw [if_pos hr0, if_pos ⟨e, hx0⟩]) (by omega))
                have x1 : (x == 0) = false := by simpa using hx0
                subst e
                clear hy bad hxx hr hz
                go_wp2_with ((go_at_call 87; ((with_reducible refine (cRange_any _ _ _ _).mono ?_)); rintro e w' ⟨rfl, rfl⟩))
                go_ret
                exact ⟨ret_int hr3.out.symm, HB.out⟩
            · have hy2 : Hid (fsN (fun j => celE k j (mAt M k j)) (q + 1) = 0) := Lib.hid (fsN_on hy.out (by show celE k q (mAt M k q) = 0; rw [hxx.out]; unfold celE; rw [if_pos hr0, if_neg (fun h => e h.1)]))
              have e1 : ((k : Int) == (q : Int)) = false := by simpa using (by omega : ¬ (k : Int) = (q : Int))
              have e2 : ¬ (k : Int) = (q : Int) := by omega
              clear hy bad hxx hr e
              go_wp2_with ((go_at_call 87; ((with_reducible refine (cRange_any _ _ _ _).mono ?_)); rintro e w' ⟨rfl, rfl⟩))
              go_round
              case rel => exact ⟨q + 1, by omega, by go_num, hy2⟩
              case measure => (simp [intOf]) <;> omega
          · have hr0 : rngE x (-1) 10000 = 2 := rngE_f hr
            have hr3 : Hid (E = 2) := Lib.hid (bad 2 (by unfold celE; rw [hr0]; rfl) (by omega))
            clear hy bad hxx hr hz
            go_wp2_with ((go_at_call 87; ((with_reducible refine (cRange_any _ _ _ _).mono ?_)); rintro e w' ⟨rfl, rfl⟩))
            go_ret
            exact ⟨ret_int hr3.out.symm, HB.out⟩
        · have hqq : q = n := by omega
          have hz2 : Hid (fsN (rowE M n) (k + 1) = 0) := Lib.hid (fsN_on hz.out (by unfold rowE; rw [← hqq]; exact hy.out))
          clear hz hy hqq
          go_wp2
          go_round
          case rel => exact ⟨k + 1, by omega, by go_num, hz2⟩
          case measure => (simp [intOf]) <;> omega
    · have hkk : k = n := by omega
      have hr : Hid (E = 0) := Lib.hid (by have h9 := hz.out; rw [hkk] at h9; rw [← hE.out]; exact h9)
      clear hz hkk
      go_wp2
      go_ret
      exact ⟨ret_int hr.out.symm, HB.out⟩
theorem num0_is (A : Option Addr) (cap c : Nat) (w : World) :
    Calls Tryz.prog 152 #[.slice A 0 cap, .func (.func 153) #[] #[.pointer (some ⟨c, 0, none⟩)]] w fun e w' => e = .returned (.tuple #[.int .i64 0, .int .i64 0]) ∧ Below w.heap.size w w' := by
  go_enter Tryz.func152, Tryz.ntmps152
  go_wp2
  go_loopw [11] (fun i wr => i = .int .i64 0 ∧ Below w.heap.size w wr) (fun _ _ => 0)
  case atStart => exact ⟨rfl, (by (repeat (first | (with_reducible refine Below.drew ?_) | (with_reducible refine below_drewN ?_ _) | (with_reducible refine Below.alloc ?_ (by first | omega | (simp; done) | (simp; omega) | (simp at *; omega)) _) | (with_reducible refine Below.setCell ?_ (by first | omega | (simp; done) | (simp; omega) | (simp at *; omega)) _) | (with_reducible exact Below.refl _ _) | (with_reducible assumption) | (with_reducible refine Below.trans ?_ (Below.mono (by assumption) (by first | omega | (simp; done) | (simp; omega) | (simp at *; omega)))))))⟩
  case round =>
    obtain ⟨rfl, hB⟩ := hrel
    go_wp2
    go_ret2
    exact ⟨rfl, hB⟩
theorem each0_is (A : Option Addr) (cap p1 p2 p3 : Nat) (w : World) :
    Calls Tryz.prog 129 #[.slice A 0 cap, .func (.func 130) #[] #[.pointer (some ⟨p1, 0, none⟩), .pointer (some ⟨p2, 0, none⟩), .pointer (some ⟨p3, 0, none⟩)]] w fun e w' => e = .returned (.int .i64 0) ∧ Below w.heap.size w w' := by
  have hmf : ∀ (fn : Fn) (first cap : Array Value) (w : World), (Instr.makeFunc fn first cap).run Tryz.prog w = .ok (.func fn first cap) w := fun _ _ _ _ => rfl
  go_enter Tryz.func129, Tryz.ntmps129
  go_wp2_with fail
  refine (num0_is A cap _ _).mono ?_
  rintro e x1 ⟨rfl, hb1⟩
  have hB1 : Below w.heap.size w x1 := (by (repeat (first | (with_reducible refine Below.drew ?_) | (with_reducible refine below_drewN ?_ _) | (with_reducible refine Below.alloc ?_ (by first | omega | (simp; done) | (simp; omega) | (simp at *; omega)) _) | (with_reducible refine Below.setCell ?_ (by first | omega | (simp; done) | (simp; omega) | (simp at *; omega)) _) | (with_reducible exact Below.refl _ _) | (with_reducible assumption) | (with_reducible refine Below.trans ?_ (Below.mono (by assumption) (by first | omega | (simp; done) | (simp; omega) | (simp at *; omega)))))))
  clear hb1
  go_wp2
  go_ret
  exact ⟨rfl, hB1⟩
theorem named0_is (A : Option Addr) (cap : Nat) (w : World) :
    Calls Tryz.prog 96 #[.slice A 0 cap, .func (.func 94) #[] #[], .func (.func 95) #[] #[]] w fun e w' => e = .returned (.int .i64 0) ∧ Below w.heap.size w w' := by
  have hmf : ∀ (fn : Fn) (first cap : Array Value) (w : World), (Instr.makeFunc fn first cap).run Tryz.prog w = .ok (.func fn first cap) w := fun _ _ _ _ => rfl
  go_enter Tryz.func96, Tryz.ntmps96
  go_wp2_with fail
  refine (Names_is _).mono ?_
  rintro e x1 ⟨q, r, rfl, cq, cm, nqr, gq, gr, lq, lr, hb1⟩
  have hB1 : Below w.heap.size w x1 := (by (repeat (first | (with_reducible refine Below.drew ?_) | (with_reducible refine below_drewN ?_ _) | (with_reducible refine Below.alloc ?_ (by first | omega | (simp; done) | (simp; omega) | (simp at *; omega)) _) | (with_reducible refine Below.setCell ?_ (by first | omega | (simp; done) | (simp; omega) | (simp at *; omega)) _) | (with_reducible exact Below.refl _ _) | (with_reducible assumption) | (with_reducible refine Below.trans ?_ (Below.mono (by assumption) (by first | omega | (simp; done) | (simp; omega) | (simp at *; omega)))))))
  clear hb1 cq cm
  go_wp2_with fail
  refine (each0_is A cap _ _ _ _).mono ?_
  rintro e x2 ⟨rfl, hb2⟩
  have zz := hB1.size
  have hB2 : Below w.heap.size w x2 := (by (repeat (first | (with_reducible refine Below.drew ?_) | (with_reducible refine below_drewN ?_ _) | (with_reducible refine Below.alloc ?_ (by first | omega | (simp; done) | (simp; omega) | (simp at *; omega)) _) | (with_reducible refine Below.setCell ?_ (by first | omega | (simp; done) | (simp; omega) | (simp at *; omega)) _) | (with_reducible exact Below.refl _ _) | (with_reducible assumption) | (with_reducible refine Below.trans ?_ (Below.mono (by assumption) (by first | omega | (simp; done) | (simp; omega) | (simp at *; omega)))))))
  clear hb2
  go_wp2
  go_ret
  exact ⟨rfl, hB2⟩
theorem namedSl_any (L : List ByteArray) (A : Option Addr) (cap len : Nat) (E : Int) (w : World) (hlen : Hid (len = L.length)) (hl : len ≤ 1000000) (hsz : Hid (∀ s ∈ L, s.size ≤ 1000000)) (HP : Hid (SlRows strV 1 w A L)) (hE : Hid (nmlE [] L = E)) :
    Calls Tryz.prog 96 #[.slice A len cap, .func (.func 94) #[] #[], .func (.func 95) #[] #[]] w fun e w' => e = .returned (.int .i64 E) ∧ Below w.heap.size w w' := by
  rcases HP.out with h0 | ⟨b, off, rfl, hlt, h⟩
  · have h1 := hlen.out
    have h2 := hE.out
    rw [h0] at h1 h2
    simp at h1
    subst h1
    rw [← h2]
    exact named0_is A cap w
  · exact namedNames_is L b off cap len E w hlen hl hsz hlt (Lib.hid h) hE
set_option maxRecDepth 100000 in
set_option maxHeartbeats 2000000 in
theorem CheckChart_any (A B : Option Addr) (n m ca cb : Nat) (Pl : List ByteArray) (M : List (List Int)) (E : Int) (w : World) (hn : Hid (n = Pl.length)) (hm : Hid (m = M.length)) (hl : n ≤ 1000000) (hl2 : m ≤ 1000000) (hsz : Hid (∀ s ∈ Pl, s.size ≤ 1000000)) (HP : Hid (SlRows strV 1 w A Pl)) (HM : Hid (SlMat w B M)) (hE : Hid (chtE Pl M = E)) :
    Calls Tryz.prog 46 #[.agg #[.slice A n ca, .slice B m cb]] w fun e w' => e = .returned (.int .i64 E) ∧ Below w.heap.size w w' := by
  have he := hE.out
  unfold chtE at he
  rw [← hn.out, ← hm.out] at he
  have hmf : ∀ (fn : Fn) (first cap : Array Value) (w : World), (Instr.makeFunc fn first cap).run Tryz.prog w = .ok (.func fn first cap) w := fun _ _ _ _ => rfl
  clear hE
  by_cases h12 : 12 < n
  · rw [if_pos h12] at he
    have HE := Lib.hid he
    have i0 : (12 : Int) < (n : Int) := by omega
    clear he
    go_enter Tryz.func46, Tryz.ntmps46
    go_wp2
    go_ret
    exact ⟨ret_int HE.out, (by (repeat (first | (with_reducible refine Below.drew ?_) | (with_reducible refine below_drewN ?_ _) | (with_reducible refine Below.alloc ?_ (by first | omega | (simp; done) | (simp; omega) | (simp at *; omega)) _) | (with_reducible refine Below.setCell ?_ (by first | omega | (simp; done) | (simp; omega) | (simp at *; omega)) _) | (with_reducible exact Below.refl _ _) | (with_reducible assumption) | (with_reducible refine Below.trans ?_ (Below.mono (by assumption) (by first | omega | (simp; done) | (simp; omega) | (simp at *; omega)))))))⟩
  rw [if_neg h12] at he
  have i0 : ¬ (12 : Int) < (n : Int) := by omega
  obtain ⟨F, hF⟩ : ∃ F, Hid (nmlE [] Pl = F) := ⟨_, Lib.hid rfl⟩
  rw [hF.out] at he
  have HEAD : ∀ X : World, True := fun _ => trivial
  rcases ez2 F with ⟨hz0, hzb⟩ | ⟨hz0, hzb⟩
  · rw [if_pos hz0.out] at he
    have hF0 : Hid (nmlE [] Pl = 0) := Lib.hid (by rw [hF.out, hz0.out])
    obtain ⟨p, hp⟩ : ∃ p, Hid (othB n M = p) := ⟨_, Lib.hid rfl⟩
    rw [hp.out] at he
    have HE := Lib.hid he
    clear he hF hz0 hzb
    by_cases hmn : m = n
    · cases p with
      | true =>
        have hr : Hid (E = 10) := Lib.hid (by rw [← HE.out, if_pos (Or.inr rfl)])
        subst hmn
        clear HE
        go_enter Tryz.func46, Tryz.ntmps46
        go_wp2_with fail
        have hB0 : Below w.heap.size w (w.alloc (.cells #[.slice A m ca, .slice B m cb] 78)) := (Below.refl _ _).alloc (Nat.le_refl _) _
        refine (namedSl_any Pl A ca m 0 _ hn (by omega) hsz (Lib.hid (HP.out.below hB0)) hF0).mono ?_
        rintro e w1 ⟨rfl, hb1⟩
        have z1 := hb1.size
        try simp at z1
        have g0 : w1.cell? ⟨w.heap.size, 0, none⟩ = some (.slice A m ca) := by rw [(bcell hb1).1 _ _ (by simp)]; simp [go_sem]
        have g1 : w1.cell? ⟨w.heap.size, 1, none⟩ = some (.slice B m cb) := by rw [(bcell hb1).1 _ _ (by simp)]; simp [go_sem]
        have hB1 : Below w.heap.size w w1 := hB0.trans (hb1.mono hB0.size)
        clear hb1 hB0
        go_wp2_with fail
        refine (containsRows_any B A m m cb ca w.heap.size M true _ hm (by omega) (Lib.hid (HM.out.below hB1)) g0 hp).mono ?_
        rintro e w2 ⟨rfl, rfl⟩
        go_wp2
        go_ret
        exact ⟨ret_int hr.out.symm, hB1⟩
      | false =>
        have hr : Hid (minsE M n = E) := Lib.hid (by rw [← HE.out, if_neg (fun h => h.elim (fun h => h hmn) (fun h => by cases h))])
        subst hmn
        clear HE
        go_enter Tryz.func46, Tryz.ntmps46
        go_wp2_with fail
        have hB0 : Below w.heap.size w (w.alloc (.cells #[.slice A m ca, .slice B m cb] 78)) := (Below.refl _ _).alloc (Nat.le_refl _) _
        refine (namedSl_any Pl A ca m 0 _ hn (by omega) hsz (Lib.hid (HP.out.below hB0)) hF0).mono ?_
        rintro e w1 ⟨rfl, hb1⟩
        have z1 := hb1.size
        try simp at z1
        have g0 : w1.cell? ⟨w.heap.size, 0, none⟩ = some (.slice A m ca) := by rw [(bcell hb1).1 _ _ (by simp)]; simp [go_sem]
        have g1 : w1.cell? ⟨w.heap.size, 1, none⟩ = some (.slice B m cb) := by rw [(bcell hb1).1 _ _ (by simp)]; simp [go_sem]
        have hB1 : Below w.heap.size w w1 := hB0.trans (hb1.mono hB0.size)
        clear hb1 hB0
        go_wp2_with fail
        refine (containsRows_any B A m m cb ca w.heap.size M false _ hm (by omega) (Lib.hid (HM.out.below hB1)) g0 hp).mono ?_
        rintro e w2 ⟨rfl, rfl⟩
        go_wp2_with fail
        refine (checkMinutes_any A B m ca cb M E _ (by omega) (Lib.hid ⟨hm.out.symm, fun i hi => othB_row hp.out i (by have := hm.out; omega), HM.out.below hB1⟩) hr).mono ?_
        rintro e w3 ⟨rfl, hb3⟩
        have HB3 := Lib.hid (hB1.trans (hb3.mono hB1.size))
        clear hb3
        go_wp2
        go_ret
        exact ⟨rfl, HB3.out⟩
    · have hr : Hid (E = 10) := Lib.hid (by rw [← HE.out, if_pos (Or.inl hmn)])
      have e1 : ¬ (m : Int) = (n : Int) := by omega
      have e2 : ((m : Int) == (n : Int)) = false := by simpa using e1
      clear HE
      go_enter Tryz.func46, Tryz.ntmps46
      go_wp2_with fail
      have hB0 : Below w.heap.size w (w.alloc (.cells #[.slice A n ca, .slice B m cb] 78)) := (Below.refl _ _).alloc (Nat.le_refl _) _
      refine (namedSl_any Pl A ca n 0 _ hn (by omega) hsz (Lib.hid (HP.out.below hB0)) hF0).mono ?_
      rintro e w1 ⟨rfl, hb1⟩
      have z1 := hb1.size
      try simp at z1
      have g0 : w1.cell? ⟨w.heap.size, 0, none⟩ = some (.slice A n ca) := by rw [(bcell hb1).1 _ _ (by simp)]; simp [go_sem]
      have g1 : w1.cell? ⟨w.heap.size, 1, none⟩ = some (.slice B m cb) := by rw [(bcell hb1).1 _ _ (by simp)]; simp [go_sem]
      have hB1 : Below w.heap.size w w1 := hB0.trans (hb1.mono hB0.size)
      clear hb1 hB0
      go_wp2
      go_ret
      exact ⟨ret_int hr.out.symm, hB1⟩
  · rw [if_neg hz0.out] at he
    have HE := Lib.hid he
    clear he hz0
    go_enter Tryz.func46, Tryz.ntmps46
    go_wp2_with fail
    have hB0 : Below w.heap.size w (w.alloc (.cells #[.slice A n ca, .slice B m cb] 78)) := (Below.refl _ _).alloc (Nat.le_refl _) _
    refine (namedSl_any Pl A ca n F _ hn (by omega) hsz (Lib.hid (HP.out.below hB0)) hF).mono ?_
    rintro e w1 ⟨rfl, hb1⟩
    have hB1 : Below w.heap.size w w1 := hB0.trans (hb1.mono hB0.size)
    clear hb1 hB0
    go_wp2
    go_ret
    exact ⟨ret_int HE.out, hB1⟩
end Go.Proofs.YtojaompfffpofaaGreat
