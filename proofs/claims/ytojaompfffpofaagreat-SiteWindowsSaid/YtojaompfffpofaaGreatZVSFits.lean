import Derived.Test.YtojaompfffpofaaGreatZVNums
import Derived.Test.YtojaompfffpofaaGreatSCpy
import Derived.Outline
namespace Go.Proofs.YtojaompfffpofaaGreat
open Go.ChangeShapes Go.WideShapes Go.ChangeAt Go.RowKit
set_option linter.unusedVariables false
set_option linter.unusedSimpArgs false
attribute [local go_sem ↓] Go.wp_at_zero Go.wp_at_succ
def shtB (n : Nat) : Bool := decide (n ≤ 12) || (decide (60 < n) && decide (n ≤ 62))
theorem short_is (A : Option Addr) (n cap : Nat) (p : Bool) (w : World) (hl : n ≤ 9223372036854775807) (hp : Hid (shtB n = p)) :
    Calls Tryz.prog 26 #[.slice A n cap] w fun e w' => e = .returned (.bool p) ∧ w = w' := by
  have hp2 := hp.out
  unfold shtB at hp2
  clear hp
  by_cases h1 : n ≤ 12
  · have hr : Hid (p = true) := Lib.hid (by rw [← hp2, decide_eq_true h1]; rfl)
    have i1 : (n : Int) ≤ 12 := by omega
    clear hp2 h1
    go_enter Tryz.func26, Tryz.ntmps26
    go_wp2
    go_ret
    exact ⟨ret_bool hr.out.symm, rfl⟩
  · by_cases h2 : 60 < n
    · by_cases h3 : n ≤ 62
      · have hr : Hid (p = true) := Lib.hid (by rw [← hp2, decide_eq_false h1, decide_eq_true h2, decide_eq_true h3]; rfl)
        have i1 : ¬ (n : Int) ≤ 12 := by omega
        have i2 : (60 : Int) < (n : Int) := by omega
        have i3 : (n : Int) ≤ 62 := by omega
        clear hp2 h1 h2 h3
        go_enter Tryz.func26, Tryz.ntmps26
        go_wp2
        go_ret
        exact ⟨ret_bool hr.out.symm, rfl⟩
      · have hr : Hid (p = false) := Lib.hid (by rw [← hp2, decide_eq_false h1, decide_eq_true h2, decide_eq_false h3]; rfl)
        have i1 : ¬ (n : Int) ≤ 12 := by omega
        have i2 : (60 : Int) < (n : Int) := by omega
        have i3 : ¬ (n : Int) ≤ 62 := by omega
        clear hp2 h1 h2 h3
        go_enter Tryz.func26, Tryz.ntmps26
        go_wp2
        go_ret
        exact ⟨ret_bool hr.out.symm, rfl⟩
    · have hr : Hid (p = false) := Lib.hid (by rw [← hp2, decide_eq_false h1, decide_eq_false h2]; rfl)
      have i1 : ¬ (n : Int) ≤ 12 := by omega
      have i2 : ¬ (60 : Int) < (n : Int) := by omega
      clear hp2 h1 h2
      go_enter Tryz.func26, Tryz.ntmps26
      go_wp2
      go_ret
      exact ⟨ret_bool hr.out.symm, rfl⟩
theorem checkLength_is (n E : Int) (w : World) (hE : Hid (rngE n 1 1000000 = E)) :
    Calls Tryz.prog 104 #[.int .i64 n] w fun e w' => e = .returned (.int .i64 E) ∧ w = w' := by
  rw [← hE.out]
  go_enter Tryz.func104, Tryz.ntmps104
  go_wp2_with ((go_at_call 87; ((with_reducible refine (cRange_any _ _ _ _).mono ?_)); rintro e w' ⟨rfl, rfl⟩))
  go_ret
  exact ⟨rfl, rfl⟩
theorem minutesIn_is (a b : Int) (w : World) (a0 : 0 ≤ a) (a1 : a ≤ 1000000) (b0 : 0 ≤ b) (b1 : b ≤ 1000000) :
    Calls Tryz.prog 105 #[.agg #[.int .i64 a, .int .i64 b]] w fun e w' => e = .returned (.int .i64 (b - a + 1)) ∧ Below w.heap.size w w' := by
  have w1 : IntKind.i64.wrap (b - a) = b - a := IntWalk.i64_in _ (by omega)
  have w2 : IntKind.i64.wrap (b - a + 1) = b - a + 1 := IntWalk.i64_in _ (by omega)
  go_enter Tryz.func105, Tryz.ntmps105
  go_wp2
  go_ret
  exact ⟨rfl, (by (repeat (first | (with_reducible refine Below.drew ?_) | (with_reducible refine below_drewN ?_ _) | (with_reducible refine Below.alloc ?_ (by first | omega | (simp; done) | (simp; omega) | (simp at *; omega)) _) | (with_reducible refine Below.setCell ?_ (by first | omega | (simp; done) | (simp; omega) | (simp at *; omega)) _) | (with_reducible exact Below.refl _ _) | (with_reducible assumption) | (with_reducible refine Below.trans ?_ (Below.mono (by assumption) (by first | omega | (simp; done) | (simp; omega) | (simp at *; omega)))))))⟩
/-- The windows that are long enough. -/
def lngB (mi : Int) (x : Rg) : Bool := decide (mi ≤ x.hi - x.lo + 1)
def lngL (L : List Rg) (mi : Int) : List Rg := L.filter (lngB mi)
theorem lngL_snoc (L : List Rg) (mi : Int) (x : Rg) : lngL (L ++ [x]) mi = if lngB mi x = true then lngL L mi ++ [x] else lngL L mi := by
  unfold lngL
  rw [List.filter_append]
  cases h : lngB mi x <;> simp [List.filter, h]
theorem lngL_len (L : List Rg) (mi : Int) : (lngL L mi).length ≤ L.length := List.length_filter_le _ _
theorem win_all {L : List Rg} (h : winE L = 0) : L.length ≤ 60 ∧ ∀ k, k < L.length → 0 ≤ (L.getD k default).lo ∧ (L.getD k default).lo ≤ (L.getD k default).hi ∧ (L.getD k default).hi ≤ 1000000 := by
  unfold winE at h
  split at h
  · refine ⟨by assumption, fun k hk => ?_⟩
    have := winF_ok (fstW_all h k hk)
    exact ⟨this.1, this.2.1, this.2.2.1⟩
  · omega
/-- A slice of windows and an error. -/
def LonP (L : List Rg) (E : Int) (w : World) (e : Ending) (w' : World) : Prop := ∃ (G : Option Addr) (cg : Nat), e = .returned (.tuple #[.slice G L.length cg, .int .i64 E]) ∧ SlRows rgV 2 w' G L ∧ Below w.heap.size w w'
def lonE (L : List Rg) (mi : Int) : Int := firE [winE L, rngE mi 1 1000000]
set_option maxRecDepth 100000 in
set_option maxHeartbeats 2000000 in
theorem Longer_bad (L : List Rg) (A : Option Addr) (cap n : Nat) (mi E : Int) (w : World) (hn : Hid (n = L.length)) (hl : n ≤ 1000000) (hL : SlRows rgV 2 w A L) (hE : Hid (lonE L mi = E)) (hz : (E != 0) = true) :
    Calls Tryz.prog 61 #[.slice A n cap, .int .i64 mi] w (LonP [] E w) := by
  obtain ⟨F, hF⟩ : ∃ F, Hid (winE L = F) := ⟨_, Lib.hid rfl⟩
  obtain ⟨D, hD⟩ : ∃ D, Hid (rngE mi 1 1000000 = D) := ⟨_, Lib.hid rfl⟩
  have hE2 : Hid (firE [F, D] = E) := Lib.hid (by rw [← hF.out, ← hD.out]; exact hE.out)
  have HL := Lib.hid hL
  clear hE hL
  go_enter Tryz.func61, Tryz.ntmps61
  go_wp2_with fail
  refine (CheckWindows_is L A cap n F _ hn hl HL.out hF).mono ?_
  rintro e x1 ⟨rfl, hb1⟩
  have hB1 : Below w.heap.size w x1 := (by (repeat (first | (with_reducible refine Below.drew ?_) | (with_reducible refine below_drewN ?_ _) | (with_reducible refine Below.alloc ?_ (by first | omega | (simp; done) | (simp; omega) | (simp at *; omega)) _) | (with_reducible refine Below.setCell ?_ (by first | omega | (simp; done) | (simp; omega) | (simp at *; omega)) _) | (with_reducible exact Below.refl _ _) | (with_reducible assumption) | (with_reducible refine Below.trans ?_ (Below.mono (by assumption) (by first | omega | (simp; done) | (simp; omega) | (simp at *; omega)))))))
  have z1 := hB1.size
  clear hb1
  go_wp2_with ((go_at_call 104; ((with_reducible refine (checkLength_is _ _ _ hD).mono ?_)); rintro e w' ⟨rfl, rfl⟩))
  go_wp2_with fail
  refine (cF2x F D E _ _ hE2 (by simp [go_sem]) (by simp [go_sem])).mono ?_
  rintro e w' ⟨rfl, rfl⟩
  go_wp2
  go_ret2
  exact ⟨none, 0, rfl, Or.inl rfl, (by (repeat (first | (with_reducible refine Below.drew ?_) | (with_reducible refine below_drewN ?_ _) | (with_reducible refine Below.alloc ?_ (by first | omega | (simp; done) | (simp; omega) | (simp at *; omega)) _) | (with_reducible refine Below.setCell ?_ (by first | omega | (simp; done) | (simp; omega) | (simp at *; omega)) _) | (with_reducible exact Below.refl _ _) | (with_reducible assumption) | (with_reducible refine Below.trans ?_ (Below.mono (by assumption) (by first | omega | (simp; done) | (simp; omega) | (simp at *; omega)))))))⟩
set_option maxRecDepth 100000 in
set_option maxHeartbeats 2000000 in
theorem Longer_good (L : List Rg) (A : Option Addr) (cap n : Nat) (mi : Int) (w : World) (hn : Hid (n = L.length)) (hL : SlRows rgV 2 w A L) (hW : Hid (winE L = 0)) (m0 : 1 ≤ mi) (m1 : mi ≤ 1000000) :
    Calls Tryz.prog 61 #[.slice A n cap, .int .i64 mi] w (LonP (lngL L mi) 0 w) := by
  obtain ⟨i0, hi, hz0, hz1, hz2⟩ := info_partsS infoRg
  have HI := Lib.hid hi
  have HZ0 := Lib.hid hz0
  have HZ1 := Lib.hid hz1
  have HZ2 := Lib.hid hz2
  have hD : Hid (rngE mi 1 1000000 = 0) := Lib.hid (rngE_m m0 m1)
  have hl : n ≤ 60 := by rw [hn.out]; exact (win_all hW.out).1
  have HB : Hid (∀ w' : World, Below w.heap.size w w' → SlRows rgV 2 w' A L) := Lib.hid fun w' hb => hL.below hb
  have HL := Lib.hid hL
  clear hi hz0 hz1 hz2 hL
  go_enter Tryz.func61, Tryz.ntmps61
  go_wp2_with fail
  refine (CheckWindows_is L A cap n 0 _ hn (by omega) HL.out hW).mono ?_
  rintro e x1 ⟨rfl, hb1⟩
  have hB1 : Below w.heap.size w x1 := (by (repeat (first | (with_reducible refine Below.drew ?_) | (with_reducible refine below_drewN ?_ _) | (with_reducible refine Below.alloc ?_ (by first | omega | (simp; done) | (simp; omega) | (simp at *; omega)) _) | (with_reducible refine Below.setCell ?_ (by first | omega | (simp; done) | (simp; omega) | (simp at *; omega)) _) | (with_reducible exact Below.refl _ _) | (with_reducible assumption) | (with_reducible refine Below.trans ?_ (Below.mono (by assumption) (by first | omega | (simp; done) | (simp; omega) | (simp at *; omega)))))))
  have z1 := hB1.size
  clear hb1 HL
  go_wp2_with ((go_at_call 104; ((with_reducible refine (checkLength_is _ _ _ hD).mono ?_)); rintro e w' ⟨rfl, rfl⟩))
  go_wp2_with fail
  refine (cF2x 0 0 0 _ _ (Lib.hid rfl) (by simp [go_sem]) (by simp [go_sem])).mono ?_
  rintro e w' ⟨rfl, rfl⟩
  go_wp2
  go_loopw [7, 21] (fun l i wr => ∃ (k q : Nat) (G : Option Addr) (cg : Nat), i = .int .i64 k ∧ k ≤ n ∧ l = .slice G q cg ∧ q ≤ k ∧ Hid ((lngL (L.take k) mi).length = q) ∧ Hid (wr.ownsRow w.heap.size 26 2 (.slice G q cg) q (rowsV rgV (lngL (L.take k) mi))) ∧ Below w.heap.size w wr) (fun _ i _ => n - (intOf i).toNat)
  case atStart => exact ⟨0, 0, none, 0, rfl, by omega, rfl, by omega, Lib.hid rfl, Lib.hid ⟨rfl, .inl ⟨rfl, rfl⟩⟩, (by (repeat (first | (with_reducible refine Below.drew ?_) | (with_reducible refine below_drewN ?_ _) | (with_reducible refine Below.alloc ?_ (by first | omega | (simp; done) | (simp; omega) | (simp at *; omega)) _) | (with_reducible refine Below.setCell ?_ (by first | omega | (simp; done) | (simp; omega) | (simp at *; omega)) _) | (with_reducible exact Below.refl _ _) | (with_reducible assumption) | (with_reducible refine Below.trans ?_ (Below.mono (by assumption) (by first | omega | (simp; done) | (simp; omega) | (simp at *; omega)))))))⟩
  case round =>
    obtain ⟨k, q, G, cg, rfl, hk, rfl, hqk, hql, HO, hB⟩ := hrel
    have hsz := hB.size
    by_cases hkn : k < n
    · have hkl : k < L.length := by have := hn.out; omega
      have kn : (k : Int) < (n : Int) := by omega
      rcases HB.out _ hB with h0 | ⟨bl, off, rfl, hlt, hR⟩
      · rw [h0] at hkl; simp at hkl
      obtain ⟨c0, c1⟩ := rg_at hR hkl
      obtain ⟨x0, x1, x2⟩ := (win_all hW.out).2 k hkl
      have htk : L.take (k + 1) = L.take k ++ [L.getD k default] := by rw [getD_at hkl]; exact List.take_succ_eq_append_getElem hkl
      have hsn := lngL_snoc (L.take k) mi (L.getD k default)
      rw [← htk] at hsn
      obtain ⟨⟨a, b⟩, hx⟩ : ∃ x, Hid (L.getD k default = x) := ⟨_, Lib.hid rfl⟩
      rw [hx.out] at c0 c1 x0 x1 x2 hsn
      dsimp only at c0 c1 x0 x1 x2
      have HSN := Lib.hid hsn
      clear hsn htk hR
      by_cases hlo : mi ≤ b - a + 1
      · have HT : Hid (lngL (L.take (k + 1)) mi = lngL (L.take k) mi ++ [⟨a, b⟩]) := Lib.hid (by rw [HSN.out, if_pos (by unfold lngB; simpa using hlo)])
        have HRW : Hid (rowsV rgV (lngL (L.take (k + 1)) mi) = rowsV rgV (lngL (L.take k) mi) ++ [.int .i64 a, .int .i64 b]) := Lib.hid (by rw [HT.out, rowsV_app]; rfl)
        have HLN : Hid ((lngL (L.take (k + 1)) mi).length = q + 1) := Lib.hid (by rw [HT.out, List.length_append, hql.out]; rfl)
        go_wp2_with fail
        refine (minutesIn_is a b _ x0 (by omega) (by omega) x2).mono ?_
        rintro e y1 ⟨rfl, hb1⟩
        have s1 := hb1.size
        simp at s1
        have d0 : y1.cell? ⟨wr.heap.size, 0, none⟩ = some (.int .i64 a) := by rw [(bcell hb1).1 _ _ (by simp)]; simp [go_sem]
        have d1 : y1.cell? ⟨wr.heap.size, 1, none⟩ = some (.int .i64 b) := by rw [(bcell hb1).1 _ _ (by simp)]; simp [go_sem]
        have hBy : Below wr.heap.size wr y1 := (by (repeat (first | (with_reducible refine Below.drew ?_) | (with_reducible refine below_drewN ?_ _) | (with_reducible refine Below.alloc ?_ (by first | omega | (simp; done) | (simp; omega) | (simp at *; omega)) _) | (with_reducible refine Below.setCell ?_ (by first | omega | (simp; done) | (simp; omega) | (simp at *; omega)) _) | (with_reducible exact Below.refl _ _) | (with_reducible assumption) | (with_reducible refine Below.trans ?_ (Below.mono (by assumption) (by first | omega | (simp; done) | (simp; omega) | (simp at *; omega)))))))
        have o1 : wr.heap.size < y1.heap.size := by omega
        have o2 : wr.heap.size ≠ y1.heap.size := by omega
        have hB1 : Below w.heap.size w y1 := hB.trans (hBy.mono hB.size)
        have HO1 := Lib.hid (own_below HO.out hBy (Nat.le_refl _))
        have sy := hB1.size
        clear hb1 hBy
        go_wp2_with (at_builtin; refine wpList_append_own_at _ rfl _ _ 32 rfl w.heap.size 26 i0 (.agg #[.int .i64 0, .int .i64 0]) 2 16 Tryz.underlying32 HI.out HZ0.out HZ1.out HZ2.out rfl (by decide) _ _ _ rfl (own_below (N := y1.heap.size) HO1.out (by exact (by (repeat (first | (with_reducible refine Below.drew ?_) | (with_reducible refine below_drewN ?_ _) | (with_reducible refine Below.alloc ?_ (by first | omega | (simp; done) | (simp; omega) | (simp at *; omega)) _) | (with_reducible refine Below.setCell ?_ (by first | omega | (simp; done) | (simp; omega) | (simp at *; omega)) _) | (with_reducible exact Below.refl _ _) | (with_reducible assumption) | (with_reducible refine Below.trans ?_ (Below.mono (by assumption) (by first | omega | (simp; done) | (simp; omega) | (simp at *; omega)))))))) (Nat.le_refl _)) ⟨y1.heap.size, 0, none⟩ 1 1 [.int .i64 a, .int .i64 b] rfl rfl ?a0 ?a1 ?a2 ?a3 ?a4 ?_)
        case a0 =>
          intro j v hj
          match j, hj with
          | 0, hj => simp at hj; subst hj; simp [Addr.add, go_sem]
          | 1, hj => simp at hj; subst hj; simp [Addr.add, go_sem]
        case a1 => first | exact ⟨rfl, rfl⟩ | (intro v hv; simp at hv; rcases hv with rfl | rfl <;> rfl)
        case a2 => unfold maxLen; omega
        case a3 => omega
        case a4 => first | omega | (simp; omega)
        intro v' x5 hown hgrow hnn hblk
        have hB5 : Below w.heap.size w x5 := Below.grown (by exact (by (repeat (first | (with_reducible refine Below.drew ?_) | (with_reducible refine below_drewN ?_ _) | (with_reducible refine Below.alloc ?_ (by first | omega | (simp; done) | (simp; omega) | (simp at *; omega)) _) | (with_reducible refine Below.setCell ?_ (by first | omega | (simp; done) | (simp; omega) | (simp at *; omega)) _) | (with_reducible exact Below.refl _ _) | (with_reducible assumption) | (with_reducible refine Below.trans ?_ (Below.mono (by assumption) (by first | omega | (simp; done) | (simp; omega) | (simp at *; omega)))))))) hgrow (by simp; omega) (fun r hr => (own_block HO1.out r hr).1)
        have hown2 : x5.ownsRow w.heap.size 26 2 v' (lngL (L.take (k + 1)) mi).length (rowsV rgV (lngL (L.take (k + 1)) mi)) := by rw [HLN.out, HRW.out]; exact hown
        obtain ⟨g5, cap5, hv5, hg5, hl5, hr5⟩ := own_rows (f := rgV) (n := 2) (fun _ => rfl) hown2 (by rw [HT.out]; simp)
        rw [HLN.out] at hv5 hown2
        subst hv5
        have HO5 := Lib.hid hown2
        clear hown hown2 hgrow hnn hblk hg5 hl5 hr5 d0 d1
        go_wp2
        go_roundw
        case rel => exact ⟨k + 1, q + 1, some ⟨g5, 0, none⟩, cap5, by go_num, by omega, rfl, by omega, HLN, HO5, hB5⟩
        case measure => (simp [intOf]) <;> omega
      · have HT : Hid (lngL (L.take (k + 1)) mi = lngL (L.take k) mi) := Lib.hid (by rw [HSN.out, if_neg (by unfold lngB; simpa using hlo)])
        go_wp2_with fail
        refine (minutesIn_is a b _ x0 (by omega) (by omega) x2).mono ?_
        rintro e y1 ⟨rfl, hb1⟩
        have hBy : Below wr.heap.size wr y1 := (by (repeat (first | (with_reducible refine Below.drew ?_) | (with_reducible refine below_drewN ?_ _) | (with_reducible refine Below.alloc ?_ (by first | omega | (simp; done) | (simp; omega) | (simp at *; omega)) _) | (with_reducible refine Below.setCell ?_ (by first | omega | (simp; done) | (simp; omega) | (simp at *; omega)) _) | (with_reducible exact Below.refl _ _) | (with_reducible assumption) | (with_reducible refine Below.trans ?_ (Below.mono (by assumption) (by first | omega | (simp; done) | (simp; omega) | (simp at *; omega)))))))
        have hB1 : Below w.heap.size w y1 := hB.trans (hBy.mono hB.size)
        have HO1 := Lib.hid (own_below HO.out hBy (Nat.le_refl _))
        clear hb1 hBy
        go_wp2
        go_roundw
        case rel => exact ⟨k + 1, q, G, cg, by go_num, by omega, rfl, by omega, Lib.hid (by rw [HT.out]; exact hql.out), Lib.hid (by rw [HT.out]; exact HO1.out), hB1⟩
        case measure => (simp [intOf]) <;> omega
    · have hkk : k = n := by omega
      have hT : L.take k = L := by rw [hkk, hn.out, List.take_length]
      have hO := HO.out
      have hs2 := hql.out
      rw [hT] at hO hs2
      have hown2 : wr.ownsRow w.heap.size 26 2 (.slice G q cg) (lngL L mi).length (rowsV rgV (lngL L mi)) := by rw [hs2]; exact hO
      obtain ⟨G5, cg5, hv5, hS5, _, hn5, _, _⟩ := SlRows_own (f := rgV) (n := 2) (fun _ => rfl) hown2
      rw [hs2] at hv5
      injection hv5 with e1 e2 e3
      subst e1 e3
      have HS5 := Lib.hid hS5
      have HQ := Lib.hid hs2
      clear hT hO hs2 hown2 hS5 hn5 e2 hkk
      go_wp2
      go_ret2
      refine ⟨G, cg, ?_, HS5.out, hB⟩
      rw [HQ.out]
      rfl
/-- The first minute that fits, -1 where there is none. -/
def ffV (L : List Rg) (fr mi : Int) : Int := match L with
  | [] => -1
  | x :: r => if max fr x.lo + mi - 1 ≤ x.hi then max fr x.lo else ffV r fr mi
theorem ffV_at {L : List Rg} {fr mi : Int} {k : Nat} (hk : k < L.length) : ffV (L.drop k) fr mi = if max fr (L.getD k default).lo + mi - 1 ≤ (L.getD k default).hi then max fr (L.getD k default).lo else ffV (L.drop (k + 1)) fr mi := by
  rw [List.drop_eq_getElem_cons hk, getD_at hk]; rfl
def ffE (L : List Rg) (fr mi : Int) : Int := firE [winE L, rngE fr 0 1000000, rngE mi 1 1000000]
set_option maxRecDepth 100000 in
set_option maxHeartbeats 2000000 in
theorem FirstFit_bad (L : List Rg) (A : Option Addr) (cap n : Nat) (fr mi E : Int) (w : World) (hn : Hid (n = L.length)) (hl : n ≤ 1000000) (hL : SlRows rgV 2 w A L) (hE : Hid (ffE L fr mi = E)) (hz : (E != 0) = true) :
    Calls Tryz.prog 60 #[.slice A n cap, .int .i64 fr, .int .i64 mi] w fun e w' => e = .returned (.tuple #[.int .i64 0, .int .i64 E]) ∧ Below w.heap.size w w' := by
  obtain ⟨F, hF⟩ : ∃ F, Hid (winE L = F) := ⟨_, Lib.hid rfl⟩
  obtain ⟨D, hD⟩ : ∃ D, Hid (rngE mi 1 1000000 = D) := ⟨_, Lib.hid rfl⟩
  have hE2 : Hid (firE [F, rngE fr 0 1000000, D] = E) := Lib.hid (by rw [← hF.out, ← hD.out]; exact hE.out)
  have HL := Lib.hid hL
  clear hE hL
  go_enter Tryz.func60, Tryz.ntmps60
  go_wp2_with fail
  refine (CheckWindows_is L A cap n F _ hn hl HL.out hF).mono ?_
  rintro e x1 ⟨rfl, hb1⟩
  have hB1 : Below w.heap.size w x1 := (by (repeat (first | (with_reducible refine Below.drew ?_) | (with_reducible refine below_drewN ?_ _) | (with_reducible refine Below.alloc ?_ (by first | omega | (simp; done) | (simp; omega) | (simp at *; omega)) _) | (with_reducible refine Below.setCell ?_ (by first | omega | (simp; done) | (simp; omega) | (simp at *; omega)) _) | (with_reducible exact Below.refl _ _) | (with_reducible assumption) | (with_reducible refine Below.trans ?_ (Below.mono (by assumption) (by first | omega | (simp; done) | (simp; omega) | (simp at *; omega)))))))
  have z1 := hB1.size
  clear hb1
  go_wp2_with (first | (go_at_call 77; ((with_reducible refine (checkMinute_any _ _).mono ?_)); rintro e w' ⟨rfl, rfl⟩) | (go_at_call 104; ((with_reducible refine (checkLength_is _ _ _ hD).mono ?_)); rintro e w' ⟨rfl, rfl⟩))
  go_wp2_with fail
  refine (cF3x F (rngE fr 0 1000000) D E _ _ hE2 (by simp [go_sem]) (by simp [go_sem]) (by simp [go_sem])).mono ?_
  rintro e w' ⟨rfl, rfl⟩
  go_wp2
  go_ret2
  exact ⟨rfl, (by (repeat (first | (with_reducible refine Below.drew ?_) | (with_reducible refine below_drewN ?_ _) | (with_reducible refine Below.alloc ?_ (by first | omega | (simp; done) | (simp; omega) | (simp at *; omega)) _) | (with_reducible refine Below.setCell ?_ (by first | omega | (simp; done) | (simp; omega) | (simp at *; omega)) _) | (with_reducible exact Below.refl _ _) | (with_reducible assumption) | (with_reducible refine Below.trans ?_ (Below.mono (by assumption) (by first | omega | (simp; done) | (simp; omega) | (simp at *; omega)))))))⟩
/-- The value and the error of FirstFit at right arguments. -/
def ffR (v : Int) : Int × Int := if v < 0 then (0, 12) else (v, 0)
set_option maxRecDepth 100000 in
set_option maxHeartbeats 2000000 in
theorem FirstFit_good (L : List Rg) (A : Option Addr) (cap n : Nat) (fr mi v r E : Int) (w : World) (hn : Hid (n = L.length)) (hL : SlRows rgV 2 w A L) (hW : Hid (winE L = 0)) (f0 : 0 ≤ fr) (f1 : fr ≤ 1000000) (m0 : 1 ≤ mi) (m1 : mi ≤ 1000000) (hv : Hid (ffV L fr mi = v)) (hr : Hid (ffR v = (r, E))) :
    Calls Tryz.prog 60 #[.slice A n cap, .int .i64 fr, .int .i64 mi] w fun e w' => e = .returned (.tuple #[.int .i64 r, .int .i64 E]) ∧ Below w.heap.size w w' := by
  have hD : Hid (rngE mi 1 1000000 = 0) := Lib.hid (rngE_m m0 m1)
  have hM : rngE fr 0 1000000 = 0 := rngE_m f0 f1
  have hl : n ≤ 60 := by rw [hn.out]; exact (win_all hW.out).1
  have HB : Hid (∀ w' : World, Below w.heap.size w w' → SlRows rgV 2 w' A L) := Lib.hid fun w' hb => hL.below hb
  have HL := Lib.hid hL
  clear hL
  go_enter Tryz.func60, Tryz.ntmps60
  go_wp2_with fail
  refine (CheckWindows_is L A cap n 0 _ hn (by omega) HL.out hW).mono ?_
  rintro e x1 ⟨rfl, hb1⟩
  have hB1 : Below w.heap.size w x1 := (by (repeat (first | (with_reducible refine Below.drew ?_) | (with_reducible refine below_drewN ?_ _) | (with_reducible refine Below.alloc ?_ (by first | omega | (simp; done) | (simp; omega) | (simp at *; omega)) _) | (with_reducible refine Below.setCell ?_ (by first | omega | (simp; done) | (simp; omega) | (simp at *; omega)) _) | (with_reducible exact Below.refl _ _) | (with_reducible assumption) | (with_reducible refine Below.trans ?_ (Below.mono (by assumption) (by first | omega | (simp; done) | (simp; omega) | (simp at *; omega)))))))
  have z1 := hB1.size
  clear hb1 HL
  go_wp2_with (first | (go_at_call 77; ((with_reducible refine (checkMinute_any _ _).mono ?_)); rintro e w' ⟨rfl, rfl⟩) | (go_at_call 104; ((with_reducible refine (checkLength_is _ _ _ hD).mono ?_)); rintro e w' ⟨rfl, rfl⟩))
  go_wp2_with fail
  refine (cF3x 0 0 0 0 _ _ (Lib.hid rfl) (by simp [go_sem]) (by simp [go_sem]) (by simp [go_sem])).mono ?_
  rintro e w' ⟨rfl, rfl⟩
  go_wp2
  go_loopw [25] (fun i wr => ∃ k : Nat, i = .int .i64 k ∧ k ≤ n ∧ Hid (ffV (L.drop k) fr mi = v) ∧ Below w.heap.size w wr) (fun i _ => n - (intOf i).toNat)
  case atStart => exact ⟨0, rfl, by omega, by rw [List.drop_zero]; exact hv, (by (repeat (first | (with_reducible refine Below.drew ?_) | (with_reducible refine below_drewN ?_ _) | (with_reducible refine Below.alloc ?_ (by first | omega | (simp; done) | (simp; omega) | (simp at *; omega)) _) | (with_reducible refine Below.setCell ?_ (by first | omega | (simp; done) | (simp; omega) | (simp at *; omega)) _) | (with_reducible exact Below.refl _ _) | (with_reducible assumption) | (with_reducible refine Below.trans ?_ (Below.mono (by assumption) (by first | omega | (simp; done) | (simp; omega) | (simp at *; omega)))))))⟩
  case round =>
    clear hv
    obtain ⟨k, rfl, hk, hv, hB⟩ := hrel
    have hsz := hB.size
    by_cases hkn : k < n
    · have hkl : k < L.length := by have := hn.out; omega
      have kn : (k : Int) < (n : Int) := by omega
      rcases HB.out _ hB with h0 | ⟨bl, off, rfl, hlt, hR⟩
      · rw [h0] at hkl; simp at hkl
      obtain ⟨c0, c1⟩ := rg_at hR hkl
      obtain ⟨x0, x1, x2⟩ := (win_all hW.out).2 k hkl
      have hva := hv.out
      rw [ffV_at hkl] at hva
      obtain ⟨⟨a, b⟩, hx⟩ : ∃ x, Hid (L.getD k default = x) := ⟨_, Lib.hid rfl⟩
      rw [hx.out] at c0 c1 x0 x1 x2 hva
      dsimp only at c0 c1 x0 x1 x2 hva
      have b0 : 0 ≤ max fr a := by omega
      have b1 : max fr a ≤ 1000000 := by omega
      have HVA := Lib.hid hva
      have w1 : IntKind.i64.wrap (max fr a + mi) = max fr a + mi := IntWalk.i64_in _ (by omega)
      have w2 : IntKind.i64.wrap (max fr a + mi - 1) = max fr a + mi - 1 := IntWalk.i64_in _ (by omega)
      clear hR hva hv
      by_cases hfit : max fr a + mi - 1 ≤ b
      · have HR : Hid (r = max fr a ∧ E = 0) := Lib.hid (by
          have h1 := HVA.out
          rw [if_pos hfit] at h1
          have h2 := hr.out
          unfold ffR at h2
          rw [← h1, if_neg (by omega)] at h2
          injection h2 with h3 h4
          exact ⟨h3.symm, h4.symm⟩)
        clear HVA
        go_wp2
        all_goals
          go_ret2
          exact ⟨by rw [HR.out.1, HR.out.2]; rfl, (by (repeat (first | (with_reducible refine Below.drew ?_) | (with_reducible refine below_drewN ?_ _) | (with_reducible refine Below.alloc ?_ (by first | omega | (simp; done) | (simp; omega) | (simp at *; omega)) _) | (with_reducible refine Below.setCell ?_ (by first | omega | (simp; done) | (simp; omega) | (simp at *; omega)) _) | (with_reducible exact Below.refl _ _) | (with_reducible assumption) | (with_reducible refine Below.trans ?_ (Below.mono (by assumption) (by first | omega | (simp; done) | (simp; omega) | (simp at *; omega)))))))⟩
      · have hv2 : Hid (ffV (L.drop (k + 1)) fr mi = v) := Lib.hid (by have h1 := HVA.out; rw [if_neg hfit] at h1; exact h1)
        clear HVA
        go_wp2
        all_goals
          go_roundw
          case rel => exact ⟨k + 1, by go_num, by omega, hv2, (by (repeat (first | (with_reducible refine Below.drew ?_) | (with_reducible refine below_drewN ?_ _) | (with_reducible refine Below.alloc ?_ (by first | omega | (simp; done) | (simp; omega) | (simp at *; omega)) _) | (with_reducible refine Below.setCell ?_ (by first | omega | (simp; done) | (simp; omega) | (simp at *; omega)) _) | (with_reducible exact Below.refl _ _) | (with_reducible assumption) | (with_reducible refine Below.trans ?_ (Below.mono (by assumption) (by first | omega | (simp; done) | (simp; omega) | (simp at *; omega)))))))⟩
          case measure => (simp [intOf]) <;> omega
    · have hkk : k = n := by omega
      have HR : Hid (r = 0 ∧ E = 12) := Lib.hid (by
        have h1 := hv.out
        rw [List.drop_of_length_le (by have := hn.out; omega)] at h1
        have h2 := hr.out
        unfold ffR at h2
        rw [← h1, show ffV [] fr mi = -1 from rfl, if_pos (by decide)] at h2
        injection h2 with h3 h4
        exact ⟨h3.symm, h4.symm⟩)
      clear hv hkk
      go_wp2
      go_ret2
      exact ⟨by rw [HR.out.1, HR.out.2]; rfl, hB⟩
end Go.Proofs.YtojaompfffpofaaGreat
