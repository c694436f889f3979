import Derived.Test.YtjkhjjmmkdfjmaaGTVes2
import Derived.Test.YtjkhjjmmkdfjmaaGTFRatio
import Derived.Outline
namespace Go.Proofs.Ytjkhjjmmkdfjmaa
open Go.ChangeShapes Go.WideShapes Go.ChangeAt Go.RowKit
set_option linter.unusedVariables false
set_option linter.unusedSimpArgs false
attribute [local go_sem ↓] Go.wp_at_zero Go.wp_at_succ
/-- A vessel with its content. -/
structure Hd where
  nm : ByteArray
  v : Int
  m : Int
  a : Int
  b : Int
  c : Int
instance : Inhabited Hd := ⟨⟨⟨#[]⟩, 0, 0, 0, 0, 0⟩⟩
def hdV (g : Hd) : List Value := [.string g.nm, .int .i64 g.v, .int .i64 g.m, .int .i64 g.a, .int .i64 g.b, .int .i64 g.c]
def hdS (g : Hd) : Ve := ⟨g.nm, g.v, g.m⟩
theorem hd_at {w : World} {b : Nat} {H : List Hd} (h : RowsAt hdV 6 w b 0 H) {k : Nat} (hk : k < H.length) : w.cell? ⟨b, k * 6, none⟩ = some (.string H[k].nm) ∧ w.cell? ⟨b, k * 6 + 1, none⟩ = some (.int .i64 H[k].v) ∧ w.cell? ⟨b, k * 6 + 2, none⟩ = some (.int .i64 H[k].m) ∧ w.cell? ⟨b, k * 6 + 3, none⟩ = some (.int .i64 H[k].a) ∧ w.cell? ⟨b, k * 6 + 4, none⟩ = some (.int .i64 H[k].b) ∧ w.cell? ⟨b, k * 6 + 5, none⟩ = some (.int .i64 H[k].c) := by
  have q := fun i hi => h k hk i hi
  simp only [Nat.zero_add] at q
  exact ⟨q 0 (by omega), q 1 (by omega), q 2 (by omega), q 3 (by omega), q 4 (by omega), q 5 (by omega)⟩
theorem hName_any (s t : ByteArray) (v m a b c : Int) (q : Nat) (B : Bool) (w : World) (h : w.cell? ⟨q, 0, none⟩ = some (.string t)) (lq : q < w.heap.size) (hB : Hid (decide (s.data = t.data) = B)) : Calls Try.prog 119 #[.agg #[.string s, .int .i64 v, .int .i64 m, .int .i64 a, .int .i64 b, .int .i64 c], .pointer (some ⟨q, 0, none⟩)] w fun e w' => e = .returned (.bool B) ∧ Below w.heap.size w w' := by
  have n1 : q ≠ w.heap.size := by omega
  have hb := hB.out
  by_cases e : s = t
  · subst e
    obtain rfl : B = true := by rw [← hb]; simp
    go_enter Try.func119, Try.ntmps119
    go_wp2
    go_ret
    exact ⟨rfl, belA⟩
  · obtain rfl : B = false := by rw [← hb]; simp; exact fun h => e (baEq h)
    have hq := neStr e
    clear hb hB
    go_enter Try.func119, Try.ntmps119
    go_wp2
    go_ret
    exact ⟨rfl, belA⟩
set_option maxHeartbeats 1000000 in
theorem indexHel_any (H : List Hd) (A : Option Addr) (cap n q : Nat) (s : ByteArray) (E : Int) (w : World) (hn : Hid (n = H.length)) (hl : n ≤ 1000000) (hL : H = [] ∨ ∃ b, A = some ⟨b, 0, none⟩ ∧ b < w.heap.size ∧ RowsAt hdV 6 w b 0 H) (hq : w.cell? ⟨q, 0, none⟩ = some (.string s)) (lq : q < w.heap.size) (hE : Hid (fndV s (H.map hdS) = E)) :
    Calls Try.prog 118 #[.slice A n cap, .func (.func 119) #[] #[.pointer (some ⟨q, 0, none⟩)]] w fun e w' => e = .returned (.int .i64 E) ∧ Below w.heap.size w w' := by
  have HL := Lib.hid hL
  have HQ := Lib.hid hq
  clear hL hq
  go_enter Try.func118, Try.ntmps118
  go_wp2
  go_loopw [8] (fun i wr => ∃ k : Nat, k ≤ n ∧ i = .int .i64 k ∧ Hid (∀ j, j < k → (hj : j < H.length) → H[j].nm ≠ s) ∧ Below w.heap.size w wr) (fun i _ => n - (intOf i).toNat)
  case atStart => exact ⟨0, by omega, rfl, fun j hj => by omega, Below.refl _ _⟩
  case round =>
    obtain ⟨k, hk, rfl, hz, hB⟩ := hrel
    have hsz := hB.size
    by_cases hkn : k < n
    · have hkl : k < H.length := by have := hn.out; omega
      have kn : (k : Int) < (n : Int) := by omega
      rcases HL.out with hnil | ⟨b, rfl, hlt, hL⟩
      · rw [hnil] at hkl; simp at hkl
      · obtain ⟨c0, c1, c2, c3, c4, c5⟩ := hd_at (hL.below hB hlt) hkl
        have cq : wr.cell? ⟨q, 0, none⟩ = some (.string s) := (hB.cell (p := ⟨q, 0, none⟩) lq).trans HQ.out
        obtain ⟨x0, q0⟩ : ∃ x, Hid (H[k].nm = x) := ⟨_, Lib.hid rfl⟩
        obtain ⟨x1, q1⟩ : ∃ x, Hid (H[k].v = x) := ⟨_, Lib.hid rfl⟩
        obtain ⟨x2, q2⟩ : ∃ x, Hid (H[k].m = x) := ⟨_, Lib.hid rfl⟩
        obtain ⟨x3, q3⟩ : ∃ x, Hid (H[k].a = x) := ⟨_, Lib.hid rfl⟩
        obtain ⟨x4, q4⟩ : ∃ x, Hid (H[k].b = x) := ⟨_, Lib.hid rfl⟩
        obtain ⟨x5, q5⟩ : ∃ x, Hid (H[k].c = x) := ⟨_, Lib.hid rfl⟩
        rw [q0.out] at c0
        rw [q1.out] at c1
        rw [q2.out] at c2
        rw [q3.out] at c3
        rw [q4.out] at c4
        rw [q5.out] at c5
        have lq2 : q < wr.heap.size := by omega
        by_cases he : x0 = s
        · have hr : Hid (E = k) := Lib.hid (by
            rw [← hE.out]
            refine fndV_at (by simpa using hkl) (by simp only [List.getElem_map]; show H[k].nm = s; rw [q0.out]; exact he) (fun j hj => ?_)
            simp only [List.getElem_map]
            exact hz.out j hj _)
          have hd : Hid (decide (x0.data = s.data) = true) := Lib.hid (by rw [he]; simp)
          clear hz hE hL he
          go_wp2_with fail
          refine (hName_any x0 s x1 x2 x3 x4 x5 q true _ cq lq2 hd).mono ?_
          rintro e w1 ⟨rfl, hb1⟩
          go_wp2
          go_ret
          exact ⟨ret_int hr.out.symm, belA⟩
        · have hd : Hid (decide (x0.data = s.data) = false) := Lib.hid (by simp; exact fun h => he (baEq h))
          have hz2 : Hid (∀ j, j < k + 1 → (hj : j < H.length) → H[j].nm ≠ s) := Lib.hid fun j hj hjl => by
            by_cases e : j = k
            · subst e; rw [q0.out]; exact he
            · exact hz.out j (by omega) hjl
          clear hz hL he
          go_wp2_with fail
          refine (hName_any x0 s x1 x2 x3 x4 x5 q false _ cq lq2 hd).mono ?_
          rintro e w1 ⟨rfl, hb1⟩
          go_wp2
          go_roundw
          case rel => exact ⟨k + 1, by omega, by go_num, hz2, belA⟩
          case measure => simp [intOf]; omega
    · have kn : ¬ (k : Int) < (n : Int) := by omega
      have hr : Hid (E = -1) := Lib.hid (by
        rw [← hE.out]
        refine fndV_no fun g hg => ?_
        obtain ⟨x, hx, rfl⟩ := List.mem_map.1 hg
        obtain ⟨j, hj, rfl⟩ := List.getElem_of_mem hx
        exact hz.out j (by have := hn.out; omega) hj)
      clear hz hE
      go_wp2
      go_ret
      exact ⟨ret_int hr.out.symm, hB⟩
set_option maxHeartbeats 1000000 in
theorem vessel_none (H : List Hd) (A : Option Addr) (cap n : Nat) (s : ByteArray) (g h i j k l dy : Int) (w : World) (hn : Hid (n = H.length)) (hl : n ≤ 1000000) (hL : Hid (H = [] ∨ ∃ b, A = some ⟨b, 0, none⟩ ∧ b < w.heap.size ∧ RowsAt hdV 6 w b 0 H)) (hE : Hid (fndV s (H.map hdS) = -1)) :
    Calls Try.prog 96 #[.agg #[.slice A n cap, .int .i64 g, .int .i64 h, .int .i64 i, .int .i64 j, .int .i64 k, .int .i64 l, .int .i64 dy], .string s] w fun e w' => e = .returned (.pointer none) ∧ Below w.heap.size w w' := by
  have hmf : ∀ (fn : Fn) (first cap : Array Value) (w : World), (Instr.makeFunc fn first cap).run Try.prog w = .ok (.func fn first cap) w := fun _ _ _ _ => rfl
  go_enter Try.func96, Try.ntmps96
  go_wp2_with fail
  refine (indexHel_any H A cap n (w.heap.size + 1) s (-1) _ hn hl (by rcases hL.out with h | ⟨b, e, hlt, hR⟩; exact Or.inl h; exact Or.inr ⟨b, e, by simp; omega, hR.below (((Below.refl w.heap.size w).alloc (Nat.le_refl _) _).alloc (by simp) _) hlt⟩) (by simp [go_sem]) (by simp) hE).mono ?_
  rintro e x1 ⟨rfl, hb1⟩
  go_wp2
  go_ret
  exact ⟨rfl, belA⟩
set_option maxHeartbeats 1000000 in
theorem vessel_some (H : List Hd) (b cap n q : Nat) (s : ByteArray) (g h i j k l dy : Int) (w : World) (hn : Hid (n = H.length)) (hl : n ≤ 1000000) (hlt : b < w.heap.size) (hL : Hid (RowsAt hdV 6 w b 0 H)) (hq : q < n) (hE : Hid (fndV s (H.map hdS) = q)) :
    Calls Try.prog 96 #[.agg #[.slice (some ⟨b, 0, none⟩) n cap, .int .i64 g, .int .i64 h, .int .i64 i, .int .i64 j, .int .i64 k, .int .i64 l, .int .i64 dy], .string s] w fun e w' => e = .returned (.pointer (some ⟨b, q * 6, none⟩)) ∧ Below w.heap.size w w' := by
  have hmf : ∀ (fn : Fn) (first cap : Array Value) (w : World), (Instr.makeFunc fn first cap).run Try.prog w = .ok (.func fn first cap) w := fun _ _ _ _ => rfl
  have q0 : ¬ (q : Int) < 0 := by omega
  have q1 : (0 : Int) ≤ (q : Int) := by omega
  have q2 : (q : Int) < (n : Int) := by omega
  go_enter Try.func96, Try.ntmps96
  go_wp2_with fail
  refine (indexHel_any H (some ⟨b, 0, none⟩) cap n (w.heap.size + 1) s q _ hn hl (Or.inr ⟨b, rfl, by simp; omega, hL.out.below (((Below.refl w.heap.size w).alloc (Nat.le_refl _) _).alloc (by simp) _) hlt⟩) (by simp [go_sem]) (by simp) hE).mono ?_
  rintro e x1 ⟨rfl, hb1⟩
  have z1 := hb1.size
  try simp at z1
  have c0 : x1.cell? ⟨w.heap.size, 0, none⟩ = some (.slice (some ⟨b, 0, none⟩) n cap) := by rw [(bcell hb1).1 _ _ (by first | (simp; done) | (simp; omega))]; simp [go_sem, cP]
  go_wp2
  go_ret
  exact ⟨by first | rfl | simp, belA⟩
/-- Quotients compared. -/
theorem ratI_sgn {n d m e : Int} (n0 : 0 ≤ n) (m0 : 0 ≤ m) (d0 : 0 < d) (e0 : 0 < e) : (0 < ratI n d m e ↔ m * d < n * e) ∧ (ratI n d m e < 0 ↔ n * e < m * d) := by
  have h1 := Int.mul_ediv_add_emod n d
  have h2 := Int.mul_ediv_add_emod m e
  have r1 := Int.emod_nonneg n (show d ≠ 0 by omega)
  have r2 := Int.emod_nonneg m (show e ≠ 0 by omega)
  have l1 := Int.emod_lt_of_pos n d0
  have l2 := Int.emod_lt_of_pos m e0
  have E1 : n * e = d * e * (n / d) + n % d * e := by
    have : n * e = (d * (n / d) + n % d) * e := by rw [h1]
    rw [this, Int.add_mul]; congr 1; rw [Int.mul_assoc, Int.mul_assoc, Int.mul_comm (n / d) e]
  have E2 : m * d = d * e * (m / e) + m % e * d := by
    have : m * d = (e * (m / e) + m % e) * d := by rw [h2]
    rw [this, Int.add_mul]; congr 1; rw [Int.mul_comm d e, Int.mul_assoc, Int.mul_assoc, Int.mul_comm (m / e) d]
  have p1 : 0 ≤ n % d * e := Int.mul_nonneg r1 (by omega)
  have p2 : 0 ≤ m % e * d := Int.mul_nonneg r2 (by omega)
  have p3 : n % d * e < d * e := Int.mul_lt_mul_of_pos_right l1 e0
  have p4 : m % e * d < d * e := by rw [Int.mul_comm d e]; exact Int.mul_lt_mul_of_pos_right l2 d0
  have D0 : 0 < d * e := Int.mul_pos d0 e0
  unfold ratI
  rw [E1, E2]
  clear h1 h2 E1 E2 r1 r2 l1 l2
  generalize d * e = D at *
  generalize n % d * e = x at *
  generalize m % e * d = y at *
  generalize n / d = p at *
  generalize m / e = q at *
  have c : ∀ a b : Int, (a < b → cmpI a b = -1) ∧ (b < a → cmpI a b = 1) ∧ (a = b → cmpI a b = 0) := fun a b => by unfold cmpI; refine ⟨fun h => if_pos h, fun h => ?_, fun h => ?_⟩; rw [if_neg (by omega), if_pos h]; rw [if_neg (by omega), if_neg (by omega)]
  by_cases h1 : p < q
  · rw [(c p q).1 h1, if_neg (by omega)]
    have := Int.mul_le_mul_of_nonneg_left (show p + 1 ≤ q by omega) (show 0 ≤ D by omega)
    rw [Int.mul_add] at this
    exact ⟨⟨fun h => by omega, fun h => by omega⟩, fun _ => by omega, fun _ => by omega⟩
  · by_cases h2 : q < p
    · rw [(c p q).2.1 h2, if_neg (by omega)]
      have := Int.mul_le_mul_of_nonneg_left (show q + 1 ≤ p by omega) (show 0 ≤ D by omega)
      rw [Int.mul_add] at this
      exact ⟨⟨fun h => by omega, fun h => by omega⟩, fun _ => by omega, fun _ => by omega⟩
    · obtain rfl : p = q := by omega
      rw [(c p p).2.2 rfl, if_pos rfl]
      by_cases h3 : x < y
      · rw [(c x y).1 h3]; exact ⟨⟨fun h => by omega, fun h => by omega⟩, fun _ => by omega, fun _ => by omega⟩
      · by_cases h4 : y < x
        · rw [(c x y).2.1 h4]; exact ⟨⟨fun h => by omega, fun h => by omega⟩, fun _ => by omega, fun _ => by omega⟩
        · rw [(c x y).2.2 (by omega)]; exact ⟨⟨fun h => by omega, fun h => by omega⟩, fun _ => by omega, fun _ => by omega⟩
end Go.Proofs.Ytjkhjjmmkdfjmaa
