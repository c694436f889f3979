import Derived.Test.YtgidmmmdpmophaaRSFEInts
import Derived.Test.YtgidmmmdpmophaaRSFESva
import Derived.Test.YtgidmmmdpmophaaRSFERfC
import Derived.Outline
namespace Go.Proofs.Ytgidmmmdpmophaa
open Go.ChangeShapes Go.WideShapes Go.ChangeAt Go.RowKit
set_option linter.unusedVariables false
set_option linter.unusedSimpArgs false
attribute [local go_sem ↓] Go.wp_at_zero Go.wp_at_succ
theorem sumOf_is (L : List Int) (b o n cap : Nat) (w : World) (hn : Hid (n = L.length)) (hl : n ≤ 8) (hS : Hid (SlRows inV 1 w (some ⟨b, o, none⟩) L)) (hb : Hid (∀ j (hj : j < L.length), 0 ≤ L[j] ∧ L[j] ≤ 1000000000000000)) :
    Calls Try.prog 16 #[.slice (some ⟨b, o, none⟩) n cap] w fun e w' => ∃ z : Int, 0 ≤ z ∧ e = .returned (.int .i64 z) ∧ Below w.heap.size w w' := by
  have h100 : ¬ (100 : Int) < (n : Int) := by omega
  go_enter Try.func16, Try.ntmps16
  go_wp2
  go_loopw [3, 4] (fun v i wr => ∃ (k : Nat) (z : Int), k ≤ n ∧ i = .int .i64 k ∧ v = .int .i64 z ∧ 0 ≤ z ∧ z ≤ 1000000000000000 * k ∧ Below w.heap.size w wr) (fun _ i _ => n - (intOf i).toNat)
  case atStart => exact ⟨0, 0, by omega, rfl, rfl, by omega, by omega, (by (repeat (first | (with_reducible refine Below.drew ?_) | (with_reducible refine below_drewN ?_ _) | (with_reducible refine Below.alloc ?_ (by first | omega | (simp; done) | (simp; omega) | (simp at *; omega)) _) | (with_reducible refine Below.setCell ?_ (by first | omega | (simp; done) | (simp; omega) | (simp at *; omega)) _) | (with_reducible exact Below.refl _ _) | (with_reducible assumption) | (with_reducible refine Below.trans ?_ (Below.mono (by assumption) (by first | omega | (simp; done) | (simp; omega) | (simp at *; omega)))))))⟩
  case round =>
    obtain ⟨k, z, hk, rfl, rfl, z0, z1, hB⟩ := hrel
    have zb := hB.size
    by_cases hkn : k < n
    · have kn : (k : Int) < (n : Int) := by omega
      have k0 : ¬ (k : Int) < 0 := by omega
      have hks : k < L.length := by have := hn.out; omega
      obtain ⟨x, hx⟩ : ∃ x, Hid (L[k] = x) := ⟨_, Lib.hid rfl⟩
      have hbx := hb.out k hks
      rw [hx.out] at hbx
      have hcell := sl_intA (hS.out.below hB) hks hx.out
      have hw : IntKind.i64.wrap (z + x) = z + x := IntWalk.i64_in _ (by omega)
      have hwk : IntKind.i64.wrap ((k : Int) + 1) = (k : Int) + 1 := IntWalk.i64_in _ (by omega)
      go_wp2_with fail
      refine (bW_r x 0 1000000000000000 true _ (Lib.hid (inB_iff.2 hbx))).mono ?_
      rintro e w1 ⟨rfl, rfl⟩
      go_wp2
      go_roundw
      case rel => exact ⟨k + 1, z + x, by omega, by go_num, rfl, by omega, by omega, hB⟩
      case measure => simp [intOf]; omega
    · have kn : ¬ (k : Int) < (n : Int) := by omega
      go_wp2
      go_ret
      exact ⟨z, z0, rfl, hB⟩
theorem sl_intsT {u : World} {B b : Nat} {l : List Int} (h : BlkF u B b (l.map fun x => Value.int .i64 x)) : SlRows inV 1 u (some ⟨b, 0, none⟩) l := by
  refine Or.inr ⟨b, 0, rfl, h.lt, fun k hk i hi => ?_⟩
  obtain rfl : i = 0 := by omega
  have hc := h.at' k (.int .i64 l[k]) (by rw [List.getElem?_map, List.getElem?_eq_getElem hk]; rfl)
  have e : 0 + k * 1 + 0 = k := by omega
  rw [e]
  exact hc
set_option maxRecDepth 100000 in
theorem exposed_any (w : World) : Calls Try.prog 4 #[] w fun e w' => e = .returned (.bool true) ∧ Below w.heap.size w w' := by
  go_enter Try.func4, Try.ntmps4
  go_wp2_with fail
  refine (Dive_is _).mono ?_
  rintro e x4 ⟨A2, B2, rfl, hG2, hD2, hb4⟩
  go_wp2_with fail
  refine (Consumed_any ⟨#[112]⟩ 1013 dG dD A2 B2 2 2 4 4 _ 0 20000 0 0 _ (by decide) (Lib.hid rfl) (by decide) (Lib.hid rfl) (by decide) (Lib.hid hG2) (Lib.hid hD2) (Lib.hid dPln) (Lib.hid rfl) (Lib.hid rfl)).mono ?_
  rintro e x5 h
  obtain ⟨_, F, rfl, hF, _, hb5⟩ := h.resolve_left (fun h => h.1 rfl)
  rw [dCon] at hF
  have hB5 : Below w.heap.size w x5 := hb4.trans (hb5.mono hb4.size)
  have hr3 : Below x5.heap.size x5 (x5.alloc (.cells #[.int .i64 689380, .int .i64 161300] 3)) := (Below.refl _ _).alloc (Nat.le_refl _) _
  have ZI := BlkF.made (B := 0) x5 [.int .i64 689380, .int .i64 161300] 3 (Nat.zero_le _)
  have hI1 := Lib.hid (sl_intsT (l := [689380, 161300]) ZI)
  have hF3 := Lib.hid (hF.below hr3)
  have hBz := Lib.hid (hB5.trans (hr3.mono hB5.size))
  clear h hb4 hb5 hG2 hD2 hF hB5 hr3 ZI
  go_wp2_with fail
  refine (Ints_is [689380, 161300] [689380, 161300] (some ⟨F, 0, none⟩) (some ⟨x5.heap.size, 0, none⟩) 2 2 2 2 _ (Lib.hid rfl) (Lib.hid rfl) (by decide) (by decide) hF3 hI1).mono ?_
  rintro e x12 ⟨rfl, hb12⟩
  rw [show decide (([689380, 161300] : List Int) = [689380, 161300]) = true by decide]
  have hB12 : Below w.heap.size w x12 := hBz.out.trans (hb12.mono hBz.out.size)
  clear hF3 hBz hI1 hb12
  go_wp2
  go_ret
  exact ⟨rfl, hB12⟩
theorem upE_leT {n d K : Int} (d0 : 0 < d) (h : n ≤ d * K) : upE n d ≤ K := by
  have h2 : (d * K + (d - 1)) / d = K := by
    rw [Int.add_comm, Int.add_mul_ediv_left _ _ (by omega), Int.ediv_eq_zero_of_lt (by omega) (by omega)]; omega
  exact Int.le_trans (Int.ediv_le_ediv d0 (by omega)) (Int.le_of_eq h2)
theorem escV_mx {T : List Ox} {r : Ru} {su dep : Int} (h : RuOk T r) (s0 : 400 ≤ su) (s1 : su ≤ 1100) (d0 : 0 ≤ dep) (d1 : dep ≤ 30000) : 0 ≤ escV r su dep ∧ escV r su dep ≤ 1000000000000000 := by
  refine ⟨(escV_bd h s0 s1 d0 d1).1, ?_⟩
  have h1 := h.em
  have h2 := h.pa
  have h3 := h.sc
  have p1 := mul_bd (show 0 ≤ su + dep by omega) (show su + dep ≤ 31100 by omega) h2.1 h2.2
  have p2 := mul_bd p1.1 p1.2 (show 0 ≤ r.sc by omega) h3.2
  have p3 := mul_bd (show 0 ≤ (2 * su + dep) * 30 by omega) (show (2 * su + dep) * 30 ≤ 966000 by omega) d0 d1
  have p4 := mul_bd (show 0 ≤ r.em by omega) h1.2 (show 0 ≤ (su + dep) * r.pa * r.sc + (2 * su + dep) * 30 * dep by omega) (Int.add_le_add p2.2 p3.2)
  unfold escV
  exact upE_leT (by omega) (by omega)
end Go.Proofs.Ytgidmmmdpmophaa
