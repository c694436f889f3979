/- The statement's own copies of a table; RealAmount of the program and of the specification. -/
import Derived.Test.YtjkhjjmmkdfjmaaFFac4
import Derived.Test.YtjkhjjmmkdfjmaaFFac5
import Derived.Laws.AppendOwnNone
import Derived.Outline
namespace Go.Proofs.Ytjkhjjmmkdfjmaa
open Go.ChangeShapes Go.WideShapes Go.ChangeAt Go.RowKit
set_option linter.unusedVariables false
set_option linter.unusedSimpArgs false
attribute [local go_sem ↓] Go.wp_at_zero Go.wp_at_succ
def fewB (n : Nat) : Bool := decide (n ≤ 6 ∨ 20 < n ∧ n ≤ 22)
theorem few_any (n : Nat) (A : Option Addr) (cap : Nat) (w : World) (hn : n ≤ maxLen) : Calls Try.prog 43 #[.slice A n cap] w fun e w' => e = .returned (.bool (fewB n)) ∧ w = w' := by
  have hb : (n : Int) ≤ 9223372036854775807 := by unfold maxLen at hn; omega
  by_cases h1 : n ≤ 6
  · have hr : Hid (fewB n = true) := Lib.hid (by unfold fewB; simp [h1])
    rw [hr.out]
    have i1 : (n : Int) ≤ 6 := by omega
    clear hn h1
    go_enter Try.func43, Try.ntmps43
    go_wp2
    go_ret
    exact ⟨rfl, rfl⟩
  · have i1 : ¬ (n : Int) ≤ 6 := by omega
    by_cases h2 : 20 < n
    · have i2 : (20 : Int) < (n : Int) := by omega
      by_cases h3 : n ≤ 22
      · have hr : Hid (fewB n = true) := Lib.hid (by unfold fewB; simp [h2, h3])
        rw [hr.out]
        have i3 : (n : Int) ≤ 22 := by omega
        clear hn h1 h2 h3
        go_enter Try.func43, Try.ntmps43
        go_wp2
        go_ret
        exact ⟨rfl, rfl⟩
      · have hr : Hid (fewB n = false) := Lib.hid (by unfold fewB; simp; omega)
        rw [hr.out]
        have i3 : ¬ (n : Int) ≤ 22 := by omega
        clear hn h1 h2 h3
        go_enter Try.func43, Try.ntmps43
        go_wp2
        go_ret
        exact ⟨rfl, rfl⟩
    · have hr : Hid (fewB n = false) := Lib.hid (by unfold fewB; simp; omega)
      rw [hr.out]
      have i2 : ¬ (20 : Int) < (n : Int) := by omega
      clear hn h1 h2
      go_enter Try.func43, Try.ntmps43
      go_wp2
      go_ret
      exact ⟨rfl, rfl⟩
theorem infoFc : (Try.prog.info? 151).map (fun i => (i.zero, i.size, i.bytes)) = some (some (.agg #[.int .i64 0, .int .i64 0, .int .i64 0]), 3, 24) := by kernel_rfl
/-- A copy came back. -/
def CopiedF (n : Nat) (L : List Fc) (w : World) (e : Ending) (w' : World) : Prop := ∃ A cap, e = .returned (.slice A n cap) ∧ SlRows fcV 3 w' A L ∧ Below w.heap.size w w'
theorem fcV_one : ∀ g, ∀ u ∈ fcV g, u.oneCell' = true := by
  intro g u hu
  simp [fcV] at hu
  rcases hu with rfl | rfl | rfl <;> rfl
theorem table_some (L : List Fc) (ad : Addr) (cap : Nat) (w : World) (hl : L.length ≤ 1000000) (hP : ∀ j u, (rowsV fcV L)[j]? = some u → (w.alloc (.cells #[] 151)).cell? (ad.add j) = some u) :
    Calls Try.prog 45 #[.slice (some ad) L.length cap] w (CopiedF L.length L w) := by
  have HC := Lib.hid hP
  have HO := Lib.hid (World.ownsRow_made (base := w.heap.size) (e := 151) (size := 3) w #[] 0 (Nat.le_refl _) (by simp) (by simp))
  obtain ⟨i0, hi, hz0, hz1, hz2⟩ := info_parts infoFc
  have HI := Lib.hid hi
  have HZ0 := Lib.hid hz0
  have HZ1 := Lib.hid hz1
  have HZ2 := Lib.hid hz2
  have HL := Lib.hid (rowsV_len (f := fcV) (n := 3) (fun _ => rfl) L)
  have HF := Lib.hid (rows_one fcV_one L)
  clear hP hi hz0 hz1 hz2
  go_enter Try.func45, Try.ntmps45
  go_wp2_with (at_builtin; refine wpList_append_own_at _ rfl _ _ 93 rfl w.heap.size 151 i0 (.agg #[.int .i64 0, .int .i64 0, .int .i64 0]) 3 24 Try.underlying93 HI.out HZ0.out HZ1.out HZ2.out rfl (by decide) _ 0 [] rfl HO.out ad L.length cap (rowsV fcV L) rfl HL.out HC.out HF.out ?c1 ?c2 ?c3 ?_)
  case c1 => unfold maxLen; omega
  case c2 => omega
  case c3 => simp
  intro v' w1 hown hgrow _ hblk
  have hB : Below w.heap.size w w1 := ((Below.refl w.heap.size w).alloc (Nat.le_refl _) _).grown hgrow (by simp) (by intro k hk; simp [Value.ownBlock] at hk; omega)
  (try simp only [Nat.zero_add, List.nil_append] at hown)
  obtain ⟨A, cp, rfl, hS, _, _, _, _⟩ := SlRows_own (f := fcV) (n := 3) (fun _ => rfl) hown
  have HS := Lib.hid hS
  clear hown hgrow hblk hS
  go_wp2
  go_ret
  exact ⟨A, cp, rfl, HS.out, hB⟩
theorem table_nil (w : World) : Calls Try.prog 45 #[.slice none 0 0] w (CopiedF 0 [] w) := by
  have HO := Lib.hid (World.ownsRow_made (base := w.heap.size) (e := 151) (size := 3) w #[] 0 (Nat.le_refl _) (by simp) (by simp))
  obtain ⟨i0, hi, hz0, hz1, hz2⟩ := info_parts infoFc
  have HI := Lib.hid hi
  clear hi hz0 hz1 hz2
  go_enter Try.func45, Try.ntmps45
  go_wp2_with (at_builtin; refine wpList_append_own_none rfl _ _ 93 rfl w.heap.size 151 i0 3 Try.underlying93 HI.out _ 0 [] rfl HO.out rfl ?_)
  go_ret
  exact ⟨some ⟨w.heap.size, 0, none⟩, 0, rfl, Or.inl rfl, (by (repeat (first | (with_reducible refine Below.drew ?_) | (with_reducible refine below_drewN ?_ _) | (with_reducible refine Below.alloc ?_ (by first | omega | (simp; done) | (simp; omega) | (simp at *; omega)) _) | (with_reducible refine Below.setCell ?_ (by first | omega | (simp; done) | (simp; omega) | (simp at *; omega)) _) | (with_reducible exact Below.refl _ _) | (with_reducible assumption) | (with_reducible refine Below.trans ?_ (Below.mono (by assumption) (by first | omega | (simp; done) | (simp; omega) | (simp at *; omega)))))))⟩
theorem table_any (L : List Fc) (A : Option Addr) (cap : Nat) (w : World) (hl : L.length ≤ 1000000) (hc : A = none → cap = 0) (hS : SlRows fcV 3 w A L) :
    Calls Try.prog 45 #[.slice A L.length cap] w (CopiedF L.length L w) := by
  rcases hS with rfl | ⟨c, off, rfl, hlt, hP⟩
  · cases A with
    | none => rw [hc rfl]; exact table_nil w
    | some ad => exact table_some [] ad cap w (by simp) (by intro j u h; simp [rowsV] at h)
  · exact table_some L _ cap w hl (rowsV_cells (f := fcV) (n := 3) (fun _ => rfl) (by decide) (hP.below (Below.alloc (Below.refl _ w) (Nat.le_refl _) (.cells #[] 151)) hlt))
theorem quo_ok {P d : Int} (h0 : 0 ≤ P) (d0 : 0 < d) : P / d * d ≤ P ∧ P ≤ upI P d * d ∧ 0 ≤ P / d ∧ P / d ≤ P ∧ 0 ≤ upI P d ∧ upI P d ≤ P + 1 := by
  have e := Int.emod_add_mul_ediv P d
  have r0 := Int.emod_nonneg P (show d ≠ 0 by omega)
  have r1 := Int.emod_lt_of_pos P d0
  have q0 : 0 ≤ P / d := Int.ediv_nonneg h0 (by omega)
  have q1 : P / d ≤ P := Int.ediv_le_self _ h0
  have c : P / d * d = d * (P / d) := Int.mul_comm _ _
  by_cases hr : P % d = 0
  · have hu : upI P d = P / d := by rw [up_nn h0 d0, ceil_z h0 d0 hr]
    rw [hu]; omega
  · have hu : upI P d = P / d + 1 := by rw [up_nn h0 d0, ceil_s h0 d0 (by omega)]
    rw [hu]
    have e2 : (P / d + 1) * d = d * (P / d) + d := by rw [Int.add_mul, c]; omega
    omega
theorem faE_two {L : List Fc} {x : Int} (hc : ctE L = 0) : faE L x = 0 ∨ faE L x = 2 := by
  unfold faE; rw [if_pos hc]
  rcases inB_cases x (fcG L 0).p (fcG L (L.length - 1)).p with h | h
  · exact Or.inl (rngE_t h)
  · exact Or.inr (rngE_f h)
/-- Both RealAmounts return the same; the amount with the factor at the lower end lies within it. -/
theorem ra_both (L : List Fc) (x y v : Int) (hl : L.length ≤ 1000000) (hc : ctE L = 0) : ∃ d q r : Int, (∀ A cap w, SlRows fcV 3 w A L → Calls Try.prog 46 #[.slice A L.length cap, .agg #[.int .i64 x, .int .i64 y], .int .i64 v] w fun e w' => e = .returned (.tuple #[.agg #[.int .i64 q, .int .i64 r], .int .i64 d]) ∧ Below w.heap.size w w')
    ∧ (∀ A cap w, SlRows fcV 3 w A L → Calls Try.prog 50 #[.slice A L.length cap, .agg #[.int .i64 x, .int .i64 y], .int .i64 v] w fun e w' => e = .returned (.tuple #[.agg #[.int .i64 q, .int .i64 r], .int .i64 d]) ∧ Below w.heap.size w w')
    ∧ ((d != 0) = true ∨ d = 0 ∧ faE L x = 0 ∧ (0 ≤ x * v ∧ x * v ≤ 400000000000) ∧ (0 ≤ q * faU L x ∧ q * faU L x ≤ x * v) ∧ (x * v ≤ r * faL L x ∧ r * faL L x ≤ 1000000000000000)) := by
  have FB : ∀ z, (faE L z = 0 → (500 ≤ faL L z ∧ faL L z ≤ 2000) ∧ (500 ≤ faU L z ∧ faU L z ≤ 2000) ∧ 0 ≤ z ∧ z ≤ 400000) := fun z hz => by
    have := fac_ok hz
    unfold faL faU
    rw [if_pos hz, if_pos hz]; exact this
  by_cases hxy : y < x
  · exact ⟨9, 0, 0, fun A cap w hS => Real_order L A cap L.length x y v w (Lib.hid rfl) hl hS (Lib.hid hc) hxy, fun A cap w hS => rReal_order L A cap L.length x y v w (Lib.hid rfl) (Lib.hid hc) hS hxy, Or.inl rfl⟩
  · rcases faE_two (x := x) hc with h1 | h1
    · rcases faE_two (x := y) hc with h2 | h2
      · rcases inB_cases v 1 1000000 with hv | hv
        · obtain ⟨v0, v1⟩ := inB_iff.1 hv
          obtain ⟨⟨a1, a2⟩, ⟨a3, a4⟩, x0, x1⟩ := FB x h1
          obtain ⟨⟨b1, b2⟩, ⟨b3, b4⟩, y0, y1⟩ := FB y h2
          have pb : ∀ z, 0 ≤ z → z ≤ 400000 → 0 ≤ z * v ∧ z * v ≤ 400000000000 := fun z g0 g1 => ⟨Int.mul_nonneg g0 (by omega), Int.le_trans (Int.mul_le_mul g1 v1 (by omega) (by omega)) (by omega)⟩
          have px := pb x x0 x1
          have py := pb y y0 y1
          have k1 := quo_ok px.1 (show 0 < faU L x by omega)
          have k2 := quo_ok px.1 (show 0 < faL L x by omega)
          have k3 := quo_ok py.1 (show 0 < faU L y by omega)
          have k4 := quo_ok py.1 (show 0 < faL L y by omega)
          refine ⟨0, min (x * v / faU L x) (y * v / faU L y), max (upI (x * v) (faL L x)) (upI (y * v) (faL L y)), fun A cap w hS => Real_ok L A cap L.length x y v _ _ _ _ _ _ _ _ _ _ _ _ w (Lib.hid rfl) hl hS (Lib.hid hc) hxy (Lib.hid h1) (Lib.hid rfl) (Lib.hid rfl) (Lib.hid h2) (Lib.hid rfl) (Lib.hid rfl) (Lib.hid (rngE_t hv)) (Lib.hid rfl) (Lib.hid rfl) px.1 px.2 py.1 py.2 (by omega) a2 (by omega) a4 (by omega) b2 (by omega) b4 (Lib.hid rfl) (Lib.hid rfl) (Lib.hid rfl) (Lib.hid rfl) (Lib.hid rfl) (Lib.hid rfl),
            fun A cap w hS => rReal_ok L A cap L.length x y v _ _ _ _ _ _ _ _ _ _ _ _ w (Lib.hid rfl) (Lib.hid hc) hS hxy (Lib.hid (by simp [h1])) (Lib.hid rfl) (Lib.hid rfl) (Lib.hid (by simp [h2])) (Lib.hid rfl) (Lib.hid rfl) (Lib.hid hv) (Lib.hid rfl) (Lib.hid rfl) px.1 px.2 py.1 py.2 (by omega) a2 (by omega) a4 (by omega) b2 (by omega) b4 (Lib.hid rfl) (Lib.hid rfl) (Lib.hid rfl) (Lib.hid rfl) (Lib.hid rfl) (Lib.hid rfl), Or.inr ⟨rfl, h1, px, ⟨?_, ?_⟩, ?_, ?_⟩⟩
          · exact Int.mul_nonneg (by omega) (by omega)
          · exact Int.le_trans (Int.mul_le_mul_of_nonneg_right (Int.min_le_left _ _) (by omega)) k1.1
          · exact Int.le_trans k2.2.1 (Int.mul_le_mul_of_nonneg_right (Int.le_max_left _ _) (by omega))
          · exact Int.le_trans (Int.mul_le_mul (show _ ≤ 400000000001 by omega) a2 (by omega) (by omega)) (by omega)
        · exact ⟨2, 0, 0, fun A cap w hS => Real_far L A cap L.length x y v _ _ _ _ _ _ 2 w (Lib.hid rfl) hl hS (Lib.hid hc) hxy (Lib.hid h1) (Lib.hid rfl) (Lib.hid rfl) (Lib.hid h2) (Lib.hid rfl) (Lib.hid rfl) (Lib.hid (by rw [rngE_f hv]; rfl)) rfl,
            fun A cap w hS => rReal_far3 L A cap L.length x y v _ _ _ _ w (Lib.hid rfl) (Lib.hid hc) hS hxy (Lib.hid (by simp [h1])) (Lib.hid rfl) (Lib.hid rfl) (Lib.hid (by simp [h2])) (Lib.hid rfl) (Lib.hid rfl) (Lib.hid hv), Or.inl rfl⟩
      · exact ⟨2, 0, 0, fun A cap w hS => Real_far L A cap L.length x y v _ _ _ _ _ _ 2 w (Lib.hid rfl) hl hS (Lib.hid hc) hxy (Lib.hid h1) (Lib.hid rfl) (Lib.hid rfl) (Lib.hid h2) (Lib.hid rfl) (Lib.hid rfl) (Lib.hid rfl) rfl,
          fun A cap w hS => rReal_far2 L A cap L.length x y v _ _ _ _ w (Lib.hid rfl) (Lib.hid hc) hS hxy (Lib.hid (by simp [h1])) (Lib.hid rfl) (Lib.hid rfl) (Lib.hid (by simp [h2])) (Lib.hid rfl) (Lib.hid rfl), Or.inl rfl⟩
    · exact ⟨2, 0, 0, fun A cap w hS => Real_far L A cap L.length x y v _ _ _ _ _ _ 2 w (Lib.hid rfl) hl hS (Lib.hid hc) hxy (Lib.hid h1) (Lib.hid rfl) (Lib.hid rfl) (Lib.hid rfl) (Lib.hid rfl) (Lib.hid rfl) (Lib.hid rfl) rfl,
        fun A cap w hS => rReal_far1 L A cap L.length x y v _ _ _ _ w (Lib.hid rfl) (Lib.hid hc) hS _ hxy (Lib.hid (by simp [h1])) (Lib.hid rfl) (Lib.hid rfl) (Lib.hid rfl) (Lib.hid rfl) (Lib.hid rfl), Or.inl rfl⟩
end Go.Proofs.Ytjkhjjmmkdfjmaa
