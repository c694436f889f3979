import Derived.Test.YtojaompfffpofaaGreatZOSUniq
import Derived.Test.YtojaompfffpofaaGreatZOSSlk
import Derived.Outline
namespace Go.Proofs.YtojaompfffpofaaGreat
open Go.ChangeShapes Go.WideShapes Go.ChangeAt Go.RowKit
set_option linter.unusedVariables false
set_option linter.unusedSimpArgs false
attribute [local go_sem ↓] Go.wp_at_zero Go.wp_at_succ
def boV (x : Bool) : List Value := [.bool x]
def setL (s : Nat → Bool) (n : Nat) : List Bool := (List.range n).map s
theorem setL_len (s : Nat → Bool) (n : Nat) : (setL s n).length = n := by simp [setL]
theorem setL_succ (s : Nat → Bool) (n : Nat) : setL s (n + 1) = setL s n ++ [s n] := by simp [setL, List.range_succ]
theorem setL_at (s : Nat → Bool) (n k : Nat) (h : k < (setL s n).length) : (setL s n)[k] = s k := by simp [setL]
theorem infoBo : (Tryz.prog.info? 4).map (fun i => (i.zero, i.size, i.bytes)) = some (some (.bool false), 1, 1) := by kernel_rfl
/-- Windows handed back, and where they lie. -/
def RwP (L : List Rg) (w : World) (e : Ending) (w' : World) : Prop := ∃ (G : Option Addr) (cg : Nat), e = .returned (.slice G L.length cg) ∧ SlRows rgV 2 w' G L ∧ (G = none → cg = 0) ∧ Below w.heap.size w w'
set_option maxRecDepth 100000 in
set_option maxHeartbeats 4000000 in
theorem refWinOf_is (a : Int) (s : Nat → Bool) (A : Option Addr) (cap n : Nat) (w : World) (a0 : 0 ≤ a) (a1 : a ≤ 1000000) (hl : n ≤ 100000) (HL : Hid (SlRows boV 1 w A (setL s n))) :
    Calls Tryz.prog 76 #[.int .i64 a, .slice A n cap] w (RwP (rwL a s n) w) := by
  have HR : Hid (∀ w' : World, Below w.heap.size w w' → SlRows boV 1 w' A (setL s n)) := Lib.hid fun w' hB => HL.out.below hB
  obtain ⟨i0, hi, hz0, hz1, hz2⟩ := info_partsS infoRg
  have HI := Lib.hid hi
  have HZ0 := Lib.hid hz0
  have HZ1 := Lib.hid hz1
  have HZ2 := Lib.hid hz2
  clear hi hz0 hz1 hz2 HL
  go_enter Tryz.func76, Tryz.ntmps76
  go_wp2
  go_loopw [5, 6] (fun l i wr => ∃ (k q : Nat) (G : Option Addr) (cg : Nat), i = .int .i64 k ∧ k ≤ n ∧ l = .slice G q cg ∧ q ≤ k ∧ Hid ((rwL a s k).length = q) ∧ Hid (wr.ownsRow w.heap.size 26 2 (.slice G q cg) q (rowsV rgV (rwL a s k))) ∧ Below w.heap.size w wr) (fun _ i _ => n - (intOf i).toNat)
  case atStart => exact ⟨0, 0, none, 0, rfl, by omega, rfl, by omega, Lib.hid rfl, Lib.hid ⟨rfl, .inl ⟨rfl, rfl⟩⟩, (by (repeat (first | (with_reducible refine Below.drew ?_) | (with_reducible refine below_drewN ?_ _) | (with_reducible refine Below.alloc ?_ (by first | omega | (simp; done) | (simp; omega) | (simp at *; omega)) _) | (with_reducible refine Below.setCell ?_ (by first | omega | (simp; done) | (simp; omega) | (simp at *; omega)) _) | (with_reducible exact Below.refl _ _) | (with_reducible assumption) | (with_reducible refine Below.trans ?_ (Below.mono (by assumption) (by first | omega | (simp; done) | (simp; omega) | (simp at *; omega)))))))⟩
  case round =>
    obtain ⟨k, q, G, cg, rfl, hk, rfl, hqk, hst, HO, hB⟩ := hrel
    have hsz := hB.size
    by_cases hkn : k < n
    · have hkl : k < (setL s n).length := by rw [setL_len]; exact hkn
      have kn : (k : Int) < (n : Int) := by omega
      rcases HR.out _ hB with h0 | ⟨bl, off, rfl, hlt, hRa⟩
      · rw [h0] at hkl; simp at hkl
      have c0 := hRa k hkl 0 (by omega)
      rw [show (boV (setL s n)[k])[0]? = some (.bool (s k)) by rw [setL_at]; rfl, Nat.add_zero, Nat.mul_one] at c0
      have ea : IntKind.i64.wrap (a + (k : Int)) = a + (k : Int) := IntWalk.i64_in _ (by omega)
      cases hp : s k with
      | false =>
        have HS : Hid (rwL a s (k + 1) = rwL a s k) := Lib.hid (by rw [rwL, if_neg (by rw [hp]; exact Bool.false_ne_true)])
        rw [hp] at c0
        clear hRa hp
        go_wp2
        go_roundw
        case rel => exact ⟨k + 1, q, G, cg, by go_num, by omega, rfl, by omega, Lib.hid (by rw [HS.out]; exact hst.out), Lib.hid (by rw [HS.out]; exact HO.out), hB⟩
        case measure => (simp [intOf]) <;> omega
      | true =>
        rw [hp] at c0
        by_cases hk0 : 0 < k
        · have ki : (0 : Int) < (k : Int) := by omega
          have kd : decide ((0 : Int) < (k : Int)) = true := by simpa using ki
          have j1 : (0 : Int) ≤ (k : Int) - 1 := by omega
          have j2 : ((k : Int) - 1).toNat = k - 1 := by omega
          have j3 : (k : Int) - 1 < (n : Int) := by omega
          have j4 : IntKind.i64.wrap ((k : Int) - 1) = (k : Int) - 1 := IntWalk.i64_in _ (by omega)
          have c1 := hRa (k - 1) (by omega) 0 (by omega)
          rw [show (boV ((setL s n)[k - 1]'(by omega)))[0]? = some (.bool (s (k - 1))) by rw [setL_at]; rfl, Nat.add_zero, Nat.mul_one] at c1
          cases hp1 : s (k - 1) with
          | true =>
            rw [hp1] at c1
            have hlast := (rwL_is a s k).last (by rw [hp1]; simpa using hk0)
            have hne : rwL a s k ≠ [] := by obtain ⟨i, c, e⟩ := hlast; rw [e]; simp
            have HS : Hid (rwL a s (k + 1) = setHi (rwL a s k) (a + (k : Int))) := Lib.hid (by rw [rwL, if_pos hp, if_pos (by rw [hp1]; simpa using hk0)])
            have HRW := Lib.hid (rowsV_setHi (rwL a s k) (a + (k : Int)) hne)
            rw [hst.out] at HRW
            have q1 : 1 ≤ q := by rw [← hst.out]; exact List.length_pos_iff.2 hne
            have qi : (1 : Int) ≤ (q : Int) := by omega
            have w2 : IntKind.i64.wrap ((q : Int) - 1) = (q : Int) - 1 := IntWalk.i64_in _ (by omega)
            have l2 : (0 : Int) ≤ (q : Int) - 1 := by omega
            have l3 : ((q : Int) - 1).toNat = q - 1 := by omega
            have l4 : (q : Int) - 1 < (q : Int) := by omega
            have hO1 := HO.out
            clear hRa hp hp1 hlast hne
            obtain ⟨g, rfl, hgb, y0, yf⟩ : ∃ g, G = some ⟨g, 0, none⟩ ∧ w.heap.size ≤ g ∧ (∃ v, wr.cell? ⟨g, (q - 1) * 2 + 1, none⟩ = some v) ∧ wr.frozen? ⟨g, (q - 1) * 2 + 1, none⟩ = false := by
              rcases hO1.2 with ⟨hv, h0⟩ | ⟨g, cap', cur, hv, hg, hh, hle, hcap, hs, ht⟩
              · omega
              · injection hv with e1 e2 e3
                refine ⟨g, e1, hg, ?_, ?_⟩
                · have : (q - 1) * 2 + 1 < cur.size := by rw [hs]; omega
                  exact ⟨cur[(q - 1) * 2 + 1], by simp [World.cell?, hh, this]⟩
                · simp [World.frozen?, hh]
            obtain ⟨v0, y0⟩ := y0
            have HO1 := Lib.hid hO1
            have HO2 := Lib.hid (own_set hO1 (j := (q - 1) * 2 + 1) (by omega) (.int .i64 (a + (k : Int))))
            clear hO1
            go_wp2
            go_roundw
            case rel => exact ⟨k + 1, q, some ⟨g, 0, none⟩, cg, by go_num, by omega, rfl, by omega, Lib.hid (by rw [HS.out]; simp [setHi, hst.out]), Lib.hid (by rw [HS.out, HRW.out]; exact HO2.out), hB.setCell (p := ⟨g, _, none⟩) hgb _⟩
            case measure => (simp [intOf]) <;> omega
          | false =>
            rw [hp1] at c1
            have HS : Hid (rwL a s (k + 1) = rwL a s k ++ [(⟨a + (k : Int), a + (k : Int)⟩ : Rg)]) := Lib.hid (by rw [rwL, if_pos hp, if_neg (by rw [hp1]; simp)])
            have HRW : Hid (rowsV rgV (rwL a s k ++ [(⟨a + (k : Int), a + (k : Int)⟩ : Rg)]) = rowsV rgV (rwL a s k) ++ [.int .i64 (a + (k : Int)), .int .i64 (a + (k : Int))]) := Lib.hid (by rw [rowsV_app]; rfl)
            clear hRa hp hp1
            go_wp2_with (at_builtin; refine wpList_append_own_at _ rfl _ _ 32 rfl w.heap.size 26 i0 (.agg #[.int .i64 0, .int .i64 0]) 2 16 Tryz.underlying32 HI.out HZ0.out HZ1.out HZ2.out rfl (by decide) _ _ _ rfl (own_below HO.out (by exact (by (repeat (first | (with_reducible refine Below.drew ?_) | (with_reducible refine below_drewN ?_ _) | (with_reducible refine Below.alloc ?_ (by first | omega | (simp; done) | (simp; omega) | (simp at *; omega)) _) | (with_reducible refine Below.setCell ?_ (by first | omega | (simp; done) | (simp; omega) | (simp at *; omega)) _) | (with_reducible exact Below.refl _ _) | (with_reducible assumption) | (with_reducible refine Below.trans ?_ (Below.mono (by assumption) (by first | omega | (simp; done) | (simp; omega) | (simp at *; omega)))))))) (Nat.le_refl _)) ⟨wr.heap.size, 0, none⟩ 1 1 [.int .i64 (a + (k : Int)), .int .i64 (a + (k : Int))] rfl rfl ?a0 ?a1 ?a2 ?a3 ?a4 ?_)
            case a0 =>
              intro j v hj
              match j, hj with
              | 0, hj => simp at hj; subst hj; simp [Addr.add, go_sem]
              | 1, hj => simp at hj; subst hj; simp [Addr.add, go_sem]
            case a1 => intro v hv; simp at hv; rcases hv with rfl | rfl <;> rfl
            case a2 => unfold maxLen; omega
            case a3 => omega
            case a4 => simp; omega
            intro v' x5 hown hgrow hnn hblk
            have hB5 : Below w.heap.size w x5 := Below.grown (by exact (by (repeat (first | (with_reducible refine Below.drew ?_) | (with_reducible refine below_drewN ?_ _) | (with_reducible refine Below.alloc ?_ (by first | omega | (simp; done) | (simp; omega) | (simp at *; omega)) _) | (with_reducible refine Below.setCell ?_ (by first | omega | (simp; done) | (simp; omega) | (simp at *; omega)) _) | (with_reducible exact Below.refl _ _) | (with_reducible assumption) | (with_reducible refine Below.trans ?_ (Below.mono (by assumption) (by first | omega | (simp; done) | (simp; omega) | (simp at *; omega)))))))) hgrow (by simp; omega) (fun r hr => (own_block HO.out r hr).1)
            have hown2 : x5.ownsRow w.heap.size 26 2 v' (rwL a s k ++ [(⟨(a + (k : Int)), (a + (k : Int))⟩ : Rg)]).length (rowsV rgV (rwL a s k ++ [(⟨(a + (k : Int)), (a + (k : Int))⟩ : Rg)])) := by rw [HRW.out, List.length_append, hst.out]; exact hown
            obtain ⟨G5, cg5, hv5, _, _, _, _, _⟩ := SlRows_own (f := rgV) (n := 2) (fun _ => rfl) hown2
            rw [List.length_append, hst.out] at hv5
            simp only [List.length_cons, List.length_nil, Nat.zero_add] at hv5
            subst hv5
            have HO5 : Hid (x5.ownsRow w.heap.size 26 2 (.slice G5 (q + 1) cg5) (q + 1) (rowsV rgV (rwL a s k ++ [(⟨(a + (k : Int)), (a + (k : Int))⟩ : Rg)]))) := Lib.hid (by rw [List.length_append, hst.out] at hown2; exact hown2)
            clear hown hown2 hgrow hnn hblk
            go_wp2
            go_roundw
            case rel => exact ⟨k + 1, q + 1, G5, cg5, by go_num, by omega, rfl, by omega, Lib.hid (by rw [HS.out]; simp [hst.out]), Lib.hid (by rw [HS.out]; exact HO5.out), hB5⟩
            case measure => (simp [intOf]) <;> omega
        · have hk00 : Hid (k = 0) := Lib.hid (by omega)
          have kd : decide ((0 : Int) < (k : Int)) = false := by rw [hk00.out]; rfl
          have kd2 : ¬ (0 : Int) < (k : Int) := by omega
          have HS : Hid (rwL a s (k + 1) = rwL a s k ++ [(⟨a + (k : Int), a + (k : Int)⟩ : Rg)]) := Lib.hid (by rw [rwL, if_pos hp, if_neg (by rw [hk00.out]; simp)])
          have HRW : Hid (rowsV rgV (rwL a s k ++ [(⟨a + (k : Int), a + (k : Int)⟩ : Rg)]) = rowsV rgV (rwL a s k) ++ [.int .i64 (a + (k : Int)), .int .i64 (a + (k : Int))]) := Lib.hid (by rw [rowsV_app]; rfl)
          clear hRa hp hk0
          go_wp2_with (at_builtin; refine wpList_append_own_at _ rfl _ _ 32 rfl w.heap.size 26 i0 (.agg #[.int .i64 0, .int .i64 0]) 2 16 Tryz.underlying32 HI.out HZ0.out HZ1.out HZ2.out rfl (by decide) _ _ _ rfl (own_below HO.out (by exact (by (repeat (first | (with_reducible refine Below.drew ?_) | (with_reducible refine below_drewN ?_ _) | (with_reducible refine Below.alloc ?_ (by first | omega | (simp; done) | (simp; omega) | (simp at *; omega)) _) | (with_reducible refine Below.setCell ?_ (by first | omega | (simp; done) | (simp; omega) | (simp at *; omega)) _) | (with_reducible exact Below.refl _ _) | (with_reducible assumption) | (with_reducible refine Below.trans ?_ (Below.mono (by assumption) (by first | omega | (simp; done) | (simp; omega) | (simp at *; omega)))))))) (Nat.le_refl _)) ⟨wr.heap.size, 0, none⟩ 1 1 [.int .i64 (a + (k : Int)), .int .i64 (a + (k : Int))] rfl rfl ?a0 ?a1 ?a2 ?a3 ?a4 ?_)
          case a1 => rfl
          case a2 => unfold maxLen; omega
          case a3 => omega
          case a4 => omega
          intro v' x5 hown hgrow hnn hblk
          have hB5 : Below w.heap.size w x5 := Below.grown (by exact (by (repeat (first | (with_reducible refine Below.drew ?_) | (with_reducible refine below_drewN ?_ _) | (with_reducible refine Below.alloc ?_ (by first | omega | (simp; done) | (simp; omega) | (simp at *; omega)) _) | (with_reducible refine Below.setCell ?_ (by first | omega | (simp; done) | (simp; omega) | (simp at *; omega)) _) | (with_reducible exact Below.refl _ _) | (with_reducible assumption) | (with_reducible refine Below.trans ?_ (Below.mono (by assumption) (by first | omega | (simp; done) | (simp; omega) | (simp at *; omega)))))))) hgrow (by simp; omega) (fun r hr => (own_block HO.out r hr).1)
          have hown2 : x5.ownsRow w.heap.size 26 2 v' (rwL a s k ++ [(⟨(a + (k : Int)), (a + (k : Int))⟩ : Rg)]).length (rowsV rgV (rwL a s k ++ [(⟨(a + (k : Int)), (a + (k : Int))⟩ : Rg)])) := by rw [HRW.out, List.length_append, hst.out]; exact hown
          obtain ⟨G5, cg5, hv5, _, _, _, _, _⟩ := SlRows_own (f := rgV) (n := 2) (fun _ => rfl) hown2
          rw [List.length_append, hst.out] at hv5
          simp only [List.length_cons, List.length_nil, Nat.zero_add] at hv5
          subst hv5
          have HO5 : Hid (x5.ownsRow w.heap.size 26 2 (.slice G5 (q + 1) cg5) (q + 1) (rowsV rgV (rwL a s k ++ [(⟨(a + (k : Int)), (a + (k : Int))⟩ : Rg)]))) := Lib.hid (by rw [List.length_append, hst.out] at hown2; exact hown2)
          clear hown hown2 hgrow hnn hblk
          go_wp2
          go_roundw
          case rel => exact ⟨k + 1, q + 1, G5, cg5, by go_num, by omega, rfl, by omega, Lib.hid (by rw [HS.out]; simp [hst.out]), Lib.hid (by rw [HS.out]; exact HO5.out), hB5⟩
          case measure => (simp [intOf]) <;> omega
    · have hkk : k = n := by omega
      subst hkk
      have hown2 : wr.ownsRow w.heap.size 26 2 (.slice G q cg) (rwL a s k).length (rowsV rgV (rwL a s k)) := by rw [hst.out]; exact HO.out
      obtain ⟨G5, cg5, hv5, hS5, _, hn5, _, _⟩ := SlRows_own (f := rgV) (n := 2) (fun _ => rfl) hown2
      rw [hst.out] at hv5
      injection hv5 with e1 e2 e3
      subst e1 e3
      have HS5 := Lib.hid hS5
      have HN5 := Lib.hid hn5
      clear hown2 hS5 hn5 e2
      go_wp2
      go_ret
      refine ⟨G, cg, ?_, HS5.out, HN5.out, hB⟩
      rw [hst.out]; rfl
end Go.Proofs.YtojaompfffpofaaGreat
