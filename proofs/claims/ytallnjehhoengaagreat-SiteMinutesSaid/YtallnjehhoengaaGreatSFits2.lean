/- The specification's Longer and FirstFit. -/
import Derived.Test.YtallnjehhoengaaGreatSFits
import Derived.Outline
namespace Go.Proofs.YtallnjehhoengaaGreat
open Go.ChangeShapes Go.WideShapes Go.ChangeAt Go.RowKit
set_option linter.unusedVariables false
set_option linter.unusedSimpArgs false
attribute [local go_sem ↓] Go.wp_at_zero Go.wp_at_succ
/-- Windows that came back. -/
def RlnP (L : List Rg) (w : World) (e : Ending) (w' : World) : Prop := ∃ (G : Option Addr) (cg : Nat), e = .returned (.slice G L.length cg) ∧ SlRows rgV 2 w' G L ∧ Below w.heap.size w w'
set_option maxRecDepth 100000 in
set_option maxHeartbeats 2000000 in
theorem refLonger_is (L : List Rg) (A : Option Addr) (cap n : Nat) (mi : Int) (w : World) (hn : Hid (n = L.length)) (hL : SlRows rgV 2 w A L) (hW : Hid (winE L = 0)) (m0 : 1 ≤ mi) (m1 : mi ≤ 1000000) :
    Calls Tryz.prog 52 #[.slice A n cap, .int .i64 mi] w (RlnP (lngL L mi) w) := by
  obtain ⟨i0, hi, hz0, hz1, hz2⟩ := info_partsS infoRg
  have HI := Lib.hid hi
  have HZ0 := Lib.hid hz0
  have HZ1 := Lib.hid hz1
  have HZ2 := Lib.hid hz2
  have hl : n ≤ 60 := by rw [hn.out]; exact (win_all hW.out).1
  have HB : Hid (∀ w' : World, Below w.heap.size w w' → SlRows rgV 2 w' A L) := Lib.hid fun w' hb => hL.below hb
  clear hi hz0 hz1 hz2 hL
  go_enter Tryz.func52, Tryz.ntmps52
  go_wp2
  go_loopw [5, 6] (fun l i wr => ∃ (k q : Nat) (G : Option Addr) (cg : Nat), i = .int .i64 k ∧ k ≤ n ∧ l = .slice G q cg ∧ q ≤ k ∧ Hid ((lngL (L.take k) mi).length = q) ∧ Hid (wr.ownsRow w.heap.size 24 2 (.slice G q cg) q (rowsV rgV (lngL (L.take k) mi))) ∧ Below w.heap.size w wr) (fun _ i _ => n - (intOf i).toNat)
  case atStart => exact ⟨0, 0, none, 0, rfl, by omega, rfl, by omega, Lib.hid rfl, Lib.hid ⟨rfl, .inl ⟨rfl, rfl⟩⟩, (by (repeat (first | (with_reducible refine Below.drew ?_) | (with_reducible refine below_drewN ?_ _) | (with_reducible refine Below.alloc ?_ (by first | omega | (simp; done) | (simp; omega) | (simp at *; omega)) _) | (with_reducible refine Below.setCell ?_ (by first | omega | (simp; done) | (simp; omega) | (simp at *; omega)) _) | (with_reducible exact Below.refl _ _) | (with_reducible assumption) | (with_reducible refine Below.trans ?_ (Below.mono (by assumption) (by first | omega | (simp; done) | (simp; omega) | (simp at *; omega)))))))⟩
  case round =>
    obtain ⟨k, q, G, cg, rfl, hk, rfl, hqk, hql, HO, hB⟩ := hrel
    have hsz := hB.size
    by_cases hkn : k < n
    · have hkl : k < L.length := by have := hn.out; omega
      have kn : (k : Int) < (n : Int) := by omega
      rcases HB.out _ hB with h0 | ⟨bl, off, rfl, hlt, hR⟩
      · rw [h0] at hkl; simp at hkl
      obtain ⟨c0, c1⟩ := rg_at hR hkl
      obtain ⟨x0, x1, x2⟩ := (win_all hW.out).2 k hkl
      have htk : L.take (k + 1) = L.take k ++ [L.getD k default] := by rw [getD_at hkl]; exact List.take_succ_eq_append_getElem hkl
      have hsn := lngL_snoc (L.take k) mi (L.getD k default)
      rw [← htk] at hsn
      obtain ⟨⟨a, b⟩, hx⟩ : ∃ x, Hid (L.getD k default = x) := ⟨_, Lib.hid rfl⟩
      rw [hx.out] at c0 c1 x0 x1 x2 hsn
      dsimp only at c0 c1 x0 x1 x2
      have HSN := Lib.hid hsn
      have w1 : IntKind.i64.wrap (b - a) = b - a := IntWalk.i64_in _ (by omega)
      have w2 : IntKind.i64.wrap (b - a + 1) = b - a + 1 := IntWalk.i64_in _ (by omega)
      clear hsn htk hR
      by_cases hlo : mi ≤ b - a + 1
      · have HT : Hid (lngL (L.take (k + 1)) mi = lngL (L.take k) mi ++ [⟨a, b⟩]) := Lib.hid (by rw [HSN.out, if_pos (by unfold lngB; simpa using hlo)])
        have HRW : Hid (rowsV rgV (lngL (L.take (k + 1)) mi) = rowsV rgV (lngL (L.take k) mi) ++ [.int .i64 a, .int .i64 b]) := Lib.hid (by rw [HT.out, rowsV_app]; rfl)
        have HLN : Hid ((lngL (L.take (k + 1)) mi).length = q + 1) := Lib.hid (by rw [HT.out, List.length_append, hql.out]; rfl)
        go_wp2_with fail
        go_big_quiet (fail)
        go_wp2_with (at_builtin; refine wpList_append_own_at _ rfl _ _ 56 rfl w.heap.size 24 i0 (.agg #[.int .i64 0, .int .i64 0]) 2 16 Tryz.underlying56 HI.out HZ0.out HZ1.out HZ2.out rfl (by decide) _ _ _ rfl (own_below (N := wr.heap.size) HO.out (by exact (by (repeat (first | (with_reducible refine Below.drew ?_) | (with_reducible refine below_drewN ?_ _) | (with_reducible refine Below.alloc ?_ (by first | omega | (simp; done) | (simp; omega) | (simp at *; omega)) _) | (with_reducible refine Below.setCell ?_ (by first | omega | (simp; done) | (simp; omega) | (simp at *; omega)) _) | (with_reducible exact Below.refl _ _) | (with_reducible assumption) | (with_reducible refine Below.trans ?_ (Below.mono (by assumption) (by first | omega | (simp; done) | (simp; omega) | (simp at *; omega)))))))) (Nat.le_refl _)) ⟨wr.heap.size, 0, none⟩ 1 1 [.int .i64 a, .int .i64 b] rfl rfl ?a0 ?a1 ?a2 ?a3 ?a4 ?_)
        case a0 =>
          intro j v hj
          match j, hj with
          | 0, hj => simp at hj; subst hj; simp [Addr.add, go_sem]; exact World.cell?_alloc_new _ #[.int .i64 a, .int .i64 b] _ 0
          | 1, hj => simp at hj; subst hj; simp [Addr.add, go_sem]; exact World.cell?_alloc_new _ #[.int .i64 a, .int .i64 b] _ 1
        case a1 => first | exact ⟨rfl, rfl⟩ | (intro v hv; simp at hv; rcases hv with rfl | rfl <;> rfl)
        case a2 => unfold maxLen; omega
        case a3 => omega
        case a4 => first | omega | (simp; omega)
        intro v' x5 hown hgrow hnn hblk
        have hB5 : Below w.heap.size w x5 := Below.grown (by exact (by (repeat (first | (with_reducible refine Below.drew ?_) | (with_reducible refine below_drewN ?_ _) | (with_reducible refine Below.alloc ?_ (by first | omega | (simp; done) | (simp; omega) | (simp at *; omega)) _) | (with_reducible refine Below.setCell ?_ (by first | omega | (simp; done) | (simp; omega) | (simp at *; omega)) _) | (with_reducible exact Below.refl _ _) | (with_reducible assumption) | (with_reducible refine Below.trans ?_ (Below.mono (by assumption) (by first | omega | (simp; done) | (simp; omega) | (simp at *; omega)))))))) hgrow (by simp; omega) (fun r hr => (own_block HO.out r hr).1)
        have hown2 : x5.ownsRow w.heap.size 24 2 v' (lngL (L.take (k + 1)) mi).length (rowsV rgV (lngL (L.take (k + 1)) mi)) := by rw [HLN.out, HRW.out]; exact hown
        obtain ⟨g5, cap5, hv5, hg5, hl5, hr5⟩ := own_rows (f := rgV) (n := 2) (fun _ => rfl) hown2 (by rw [HT.out]; simp)
        rw [HLN.out] at hv5 hown2
        subst hv5
        have HO5 := Lib.hid hown2
        clear hown hown2 hgrow hnn hblk hg5 hl5 hr5
        go_wp2
        go_roundw
        case rel => exact ⟨k + 1, q + 1, some ⟨g5, 0, none⟩, cap5, by go_num, by omega, rfl, by omega, HLN, HO5, hB5⟩
        case measure => (simp [intOf]) <;> omega
      · have HT : Hid (lngL (L.take (k + 1)) mi = lngL (L.take k) mi) := Lib.hid (by rw [HSN.out, if_neg (by unfold lngB; simpa using hlo)])
        go_wp2_with fail
        go_big_quiet (fail)
        go_wp2
        go_roundw
        case rel => exact ⟨k + 1, q, G, cg, by go_num, by omega, rfl, by omega, Lib.hid (by rw [HT.out]; exact hql.out), Lib.hid (by rw [HT.out]; exact own_below (N := wr.heap.size) HO.out (by exact (by (repeat (first | (with_reducible refine Below.drew ?_) | (with_reducible refine below_drewN ?_ _) | (with_reducible refine Below.alloc ?_ (by first | omega | (simp; done) | (simp; omega) | (simp at *; omega)) _) | (with_reducible refine Below.setCell ?_ (by first | omega | (simp; done) | (simp; omega) | (simp at *; omega)) _) | (with_reducible exact Below.refl _ _) | (with_reducible assumption) | (with_reducible refine Below.trans ?_ (Below.mono (by assumption) (by first | omega | (simp; done) | (simp; omega) | (simp at *; omega)))))))) (Nat.le_refl _)), (by (repeat (first | (with_reducible refine Below.drew ?_) | (with_reducible refine below_drewN ?_ _) | (with_reducible refine Below.alloc ?_ (by first | omega | (simp; done) | (simp; omega) | (simp at *; omega)) _) | (with_reducible refine Below.setCell ?_ (by first | omega | (simp; done) | (simp; omega) | (simp at *; omega)) _) | (with_reducible exact Below.refl _ _) | (with_reducible assumption) | (with_reducible refine Below.trans ?_ (Below.mono (by assumption) (by first | omega | (simp; done) | (simp; omega) | (simp at *; omega)))))))⟩
        case measure => (simp [intOf]) <;> omega
    · have hkk : k = n := by omega
      have hT : L.take k = L := by rw [hkk, hn.out, List.take_length]
      have hO := HO.out
      have hs2 := hql.out
      rw [hT] at hO hs2
      have hown2 : wr.ownsRow w.heap.size 24 2 (.slice G q cg) (lngL L mi).length (rowsV rgV (lngL L mi)) := by rw [hs2]; exact hO
      obtain ⟨G5, cg5, hv5, hS5, _, hn5, _, _⟩ := SlRows_own (f := rgV) (n := 2) (fun _ => rfl) hown2
      rw [hs2] at hv5
      injection hv5 with e1 e2 e3
      subst e1 e3
      have HS5 := Lib.hid hS5
      have HQ := Lib.hid hs2
      clear hT hO hs2 hown2 hS5 hn5 e2 hkk
      go_wp2
      go_ret
      refine ⟨G, cg, ?_, HS5.out, hB⟩
      rw [HQ.out]; rfl
set_option maxRecDepth 100000 in
set_option maxHeartbeats 2000000 in
theorem refFirstFit_is (L : List Rg) (A : Option Addr) (cap n : Nat) (fr mi v : Int) (w : World) (hn : Hid (n = L.length)) (hL : SlRows rgV 2 w A L) (hW : Hid (winE L = 0)) (f0 : 0 ≤ fr) (f1 : fr ≤ 1000000) (m0 : 1 ≤ mi) (m1 : mi ≤ 1000000) (hv : Hid (ffV L fr mi = v)) :
    Calls Tryz.prog 53 #[.slice A n cap, .int .i64 fr, .int .i64 mi] w fun e w' => e = .returned (.int .i64 v) ∧ Below w.heap.size w w' := by
  have hl : n ≤ 60 := by rw [hn.out]; exact (win_all hW.out).1
  have HB : Hid (∀ w' : World, Below w.heap.size w w' → SlRows rgV 2 w' A L) := Lib.hid fun w' hb => hL.below hb
  clear hL
  go_enter Tryz.func53, Tryz.ntmps53
  go_wp2
  go_loopw [7] (fun i wr => ∃ k : Nat, i = .int .i64 k ∧ k ≤ n ∧ Hid (ffV (L.drop k) fr mi = v) ∧ Below w.heap.size w wr) (fun i _ => n - (intOf i).toNat)
  case atStart => exact ⟨0, rfl, by omega, by rw [List.drop_zero]; exact hv, (by (repeat (first | (with_reducible refine Below.drew ?_) | (with_reducible refine below_drewN ?_ _) | (with_reducible refine Below.alloc ?_ (by first | omega | (simp; done) | (simp; omega) | (simp at *; omega)) _) | (with_reducible refine Below.setCell ?_ (by first | omega | (simp; done) | (simp; omega) | (simp at *; omega)) _) | (with_reducible exact Below.refl _ _) | (with_reducible assumption) | (with_reducible refine Below.trans ?_ (Below.mono (by assumption) (by first | omega | (simp; done) | (simp; omega) | (simp at *; omega)))))))⟩
  case round =>
    clear hv
    obtain ⟨k, rfl, hk, hv, hB⟩ := hrel
    have hsz := hB.size
    by_cases hkn : k < n
    · have hkl : k < L.length := by have := hn.out; omega
      have kn : (k : Int) < (n : Int) := by omega
      rcases HB.out _ hB with h0 | ⟨bl, off, rfl, hlt, hR⟩
      · rw [h0] at hkl; simp at hkl
      obtain ⟨c0, c1⟩ := rg_at hR hkl
      obtain ⟨x0, x1, x2⟩ := (win_all hW.out).2 k hkl
      have hva := hv.out
      rw [ffV_at hkl] at hva
      obtain ⟨⟨a, b⟩, hx⟩ : ∃ x, Hid (L.getD k default = x) := ⟨_, Lib.hid rfl⟩
      rw [hx.out] at c0 c1 x0 x1 x2 hva
      dsimp only at c0 c1 x0 x1 x2 hva
      have b0 : 0 ≤ max fr a := by omega
      have b1 : max fr a ≤ 1000000 := by omega
      have HVA := Lib.hid hva
      have w1 : IntKind.i64.wrap (max fr a + mi) = max fr a + mi := IntWalk.i64_in _ (by omega)
      have w2 : IntKind.i64.wrap (max fr a + mi - 1) = max fr a + mi - 1 := IntWalk.i64_in _ (by omega)
      clear hR hva hv
      by_cases hfit : max fr a + mi - 1 ≤ b
      · have HR : Hid (v = max fr a) := Lib.hid (by
          have h1 := HVA.out
          rw [if_pos hfit] at h1
          exact h1.symm)
        clear HVA
        go_wp2
        all_goals
          go_ret
          exact ⟨by rw [HR.out]; rfl, (by (repeat (first | (with_reducible refine Below.drew ?_) | (with_reducible refine below_drewN ?_ _) | (with_reducible refine Below.alloc ?_ (by first | omega | (simp; done) | (simp; omega) | (simp at *; omega)) _) | (with_reducible refine Below.setCell ?_ (by first | omega | (simp; done) | (simp; omega) | (simp at *; omega)) _) | (with_reducible exact Below.refl _ _) | (with_reducible assumption) | (with_reducible refine Below.trans ?_ (Below.mono (by assumption) (by first | omega | (simp; done) | (simp; omega) | (simp at *; omega)))))))⟩
      · have hv2 : Hid (ffV (L.drop (k + 1)) fr mi = v) := Lib.hid (by have h1 := HVA.out; rw [if_neg hfit] at h1; exact h1)
        clear HVA
        go_wp2
        all_goals
          go_roundw
          case rel => exact ⟨k + 1, by go_num, by omega, hv2, (by (repeat (first | (with_reducible refine Below.drew ?_) | (with_reducible refine below_drewN ?_ _) | (with_reducible refine Below.alloc ?_ (by first | omega | (simp; done) | (simp; omega) | (simp at *; omega)) _) | (with_reducible refine Below.setCell ?_ (by first | omega | (simp; done) | (simp; omega) | (simp at *; omega)) _) | (with_reducible exact Below.refl _ _) | (with_reducible assumption) | (with_reducible refine Below.trans ?_ (Below.mono (by assumption) (by first | omega | (simp; done) | (simp; omega) | (simp at *; omega)))))))⟩
          case measure => (simp [intOf]) <;> omega
    · have hkk : k = n := by omega
      have HR : Hid (v = -1) := Lib.hid (by
        have h1 := hv.out
        rw [List.drop_of_length_le (by have := hn.out; omega)] at h1
        exact h1.symm)
      clear hv hkk
      go_wp2
      go_ret
      exact ⟨by rw [HR.out]; rfl, hB⟩
end Go.Proofs.YtallnjehhoengaaGreat
