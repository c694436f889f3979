import Derived.Test.YtojaompfffpofaaGreatZCSWof
import Derived.Outline
namespace Go.Proofs.YtojaompfffpofaaGreat
open Go.ChangeShapes Go.WideShapes Go.ChangeAt Go.RowKit
set_option linter.unusedVariables false
set_option linter.unusedSimpArgs false
attribute [local go_sem ↓] Go.wp_at_zero Go.wp_at_succ
theorem infoIn : (Tryz.prog.info? 3).map (fun i => (i.zero, i.size, i.bytes)) = some (some (.int .i64 0), 1, 8) := by kernel_rfl
def srt (l : List Int) : List Int := l.mergeSort fun x y => decide (x ≤ y)
/-- The minutes at which something changes. -/
def mks (L : List Rg) : List Int := L.flatMap fun x => [x.lo, x.hi + 1]
theorem mks_snoc (L : List Rg) (x : Rg) : mks (L ++ [x]) = mks L ++ [x.lo, x.hi + 1] := by simp [mks]
theorem win_in {L : List Rg} (h : winE L = 0) : ∀ x ∈ L, 0 ≤ x.lo ∧ x.lo ≤ x.hi ∧ x.hi ≤ 1000000 := by
  unfold winE at h
  split at h
  · intro x hx
    obtain ⟨k, hk, rfl⟩ := List.getElem_of_mem hx
    obtain ⟨h1, h2, h3, _⟩ := winF_ok (fstW_all h k hk)
    rw [show L.getD k default = L[k] by rw [List.getD_eq_getElem?_getD, List.getElem?_eq_getElem hk]; rfl] at h1 h2 h3
    exact ⟨h1, h2, h3⟩
  · omega
theorem mks_bd {LA LB : List Rg} (ha : winE LA = 0) (hb : winE LB = 0) : ∀ x ∈ srt (mks (LA ++ LB)), -1000000 ≤ x ∧ x ≤ 2000000 := by
  intro x hx
  have hx2 : x ∈ mks (LA ++ LB) := by unfold srt at hx; exact List.mem_mergeSort.1 hx
  obtain ⟨r, hr, hx3⟩ := List.mem_flatMap.1 hx2
  have hr2 : 0 ≤ r.lo ∧ r.lo ≤ r.hi ∧ r.hi ≤ 1000000 := by
    rcases List.mem_append.1 hr with h | h
    · exact win_in ha r h
    · exact win_in hb r h
  simp at hx3
  rcases hx3 with rfl | rfl <;> omega
theorem mks_len (L : List Rg) : (mks L).length = L.length * 2 := by
  induction L with
  | nil => rfl
  | cons x r ih => show (_ ++ mks r).length = _; rw [List.length_append, ih]; simp; omega
theorem srt_len (l : List Int) : (srt l).length = l.length := by unfold srt; exact List.length_mergeSort l
def SortOK (base : Nat) : Prop := ∀ (zs : List Int) (A : Option Addr) (cap n : Nat) (v : World), n = zs.length → n ≤ 1000000 → v.ownsRow base 3 1 (.slice A n cap) n (rowsV intV zs) →
  Calls Tryz.prog 118 #[.slice A n cap] v fun e v' => e = .returned (.tuple #[]) ∧ SlRows intV 1 v' A (srt zs) ∧ Below base v v'
set_option maxRecDepth 100000 in
set_option maxHeartbeats 4000000 in
theorem combJ_is (LA LB : List Rg) (A B : Option Addr) (na nb ca cb : Nat) (w : World) (HSort : Hid (∀ base, SortOK base)) (hna : Hid (na = LA.length)) (hnb : Hid (nb = LB.length)) (na2 : na + nb ≤ 30)
    (HA : Hid (∀ w' : World, Below w.heap.size w w' → SlRows rgV 2 w' A LA)) (HB : Hid (∀ w' : World, Below w.heap.size w w' → SlRows rgV 2 w' B LB)) (CA : Hid (A = none → na = 0 ∧ ca = 0)) (CB : Hid (B = none → nb = 0 ∧ cb = 0)) (hEa : Hid (winE LA = 0)) (hEb : Hid (winE LB = 0)) :
    Calls Tryz.prog 78 #[.slice A na ca, .slice B nb cb, .func (.func 80) #[] #[]] w (WofP (wof (fun m => inW LA m || inW LB m) (srt (mks (LA ++ LB)))).1 w) := by
  have na1 : na ≤ 1000000 := by omega
  have nb1 : nb ≤ 1000000 := by omega
  have hbd := mks_bd hEa.out hEb.out
  have HBD := Lib.hid hbd
  obtain ⟨i0, hi, hz0, hz1, hz2⟩ := info_partsS infoIn
  have HI := Lib.hid hi
  have HZ0 := Lib.hid hz0
  have HZ1 := Lib.hid hz1
  have HZ2 := Lib.hid hz2
  clear hbd hi hz0 hz1 hz2
  go_enter Tryz.func78, Tryz.ntmps78
  go_upto_region 1 with (fail)
  refine wp_region_held_drew (S := (fun w' => w'.cell? ⟨w.heap.size, 0, none⟩ = some (.slice A na ca) ∧ w'.cell? ⟨w.heap.size + 1, 0, none⟩ = some (.slice B nb cb))) (by kernel_rfl) (by simp [go_sem, World.cell?_alloc_past, *]) (fun hHeld => ?_)
  refine tkH 0 ⟨some 12, _, _, _, _, _⟩ ?_ rfl ?_ (by assumption) ?_
  rotate_left
  · (intro w hSw; (try dsimp only at hSw); go_simp; all_goals with_reducible rfl)
  try simp only [Act.put, sA, sB, sC]
  refine tkH 2 ⟨some 14, _, _, _, _, _⟩ ?_ rfl ?_ (by assumption) ?_
  rotate_left
  · (intro w hSw; (try dsimp only at hSw); go_simp; all_goals with_reducible rfl)
  try simp only [Act.put, sA, sB, sC]
  refine wpAnyH_ready (rs := [1]) (by kernel_rfl) (by simp) ?_
  refine AllReadyH.cons rfl (fun K hK => ?_) AllReadyH.nil
  go_simp
  refine (CheckWindows_is LA A ca na 0 _ hna na1 (HA.out _ (by (repeat (first | (with_reducible refine Below.drew ?_) | (with_reducible refine below_drewN ?_ _) | (with_reducible refine Below.alloc ?_ (by first | omega | (simp; done) | (simp; omega) | (simp at *; omega)) _) | (with_reducible refine Below.setCell ?_ (by first | omega | (simp; done) | (simp; omega) | (simp at *; omega)) _) | (with_reducible exact Below.refl _ _) | (with_reducible assumption) | (with_reducible refine Below.trans ?_ (Below.mono (by assumption) (by first | omega | (simp; done) | (simp; omega) | (simp at *; omega)))))))) hEa).mono ?_
  rintro e y1 ⟨rfl, hb1⟩
  have z1 := hb1.size
  try simp at z1
  have c1_0 : y1.cell? ⟨w.heap.size, 0, none⟩ = some (.slice A na ca) := by rw [(bcell hb1).1 _ _ (by first | (simp; done) | (simp; omega) | omega)]; simp [go_sem, World.cell?_alloc_past, *]
  have c1_1 : y1.cell? ⟨w.heap.size + 1, 0, none⟩ = some (.slice B nb cb) := by rw [(bcell hb1).1 _ _ (by first | (simp; done) | (simp; omega) | omega)]; simp [go_sem, World.cell?_alloc_past, *]
  have c1_2 : y1.cell? ⟨w.heap.size + 1 + 1, 0, none⟩ = some (.func (.func 80) #[] #[]) := by rw [(bcell hb1).1 _ _ (by first | (simp; done) | (simp; omega) | omega)]; simp [go_sem, World.cell?_alloc_past, *]
  have o1_0 : w.heap.size < y1.heap.size := by omega
  have n1_0 : y1.heap.size ≠ w.heap.size := by omega
  have m1_0 : w.heap.size ≠ y1.heap.size := by omega
  have o1_1 : w.heap.size + 1 < y1.heap.size := by omega
  have n1_1 : y1.heap.size ≠ w.heap.size + 1 := by omega
  have m1_1 : w.heap.size + 1 ≠ y1.heap.size := by omega
  have o1_2 : w.heap.size + 1 + 1 < y1.heap.size := by omega
  have n1_2 : y1.heap.size ≠ w.heap.size + 1 + 1 := by omega
  have m1_2 : w.heap.size + 1 + 1 ≠ y1.heap.size := by omega
  have hB1 : Below w.heap.size w y1 := (by (repeat (first | (with_reducible refine Below.drew ?_) | (with_reducible refine below_drewN ?_ _) | (with_reducible refine Below.alloc ?_ (by first | omega | (simp; done) | (simp; omega) | (simp at *; omega)) _) | (with_reducible refine Below.setCell ?_ (by first | omega | (simp; done) | (simp; omega) | (simp at *; omega)) _) | (with_reducible exact Below.refl _ _) | (with_reducible assumption) | (with_reducible refine Below.trans ?_ (Below.mono (by assumption) (by first | omega | (simp; done) | (simp; omega) | (simp at *; omega)))))))
  clear hb1
  go_wp2_with fail
  refine hK.out _ _ (by simp [go_sem, World.cell?_alloc_past, *]) (fun hHeld => ?_)
  clear hK K
  try simp only [Act.put, sA, sB, sC]
  refine wpAnyH_ready (rs := [3]) (by kernel_rfl) (by simp) ?_
  refine AllReadyH.cons rfl (fun K hK => ?_) AllReadyH.nil
  go_simp
  refine (CheckWindows_is LB B cb nb 0 _ hnb nb1 (HB.out _ (by (repeat (first | (with_reducible refine Below.drew ?_) | (with_reducible refine below_drewN ?_ _) | (with_reducible refine Below.alloc ?_ (by first | omega | (simp; done) | (simp; omega) | (simp at *; omega)) _) | (with_reducible refine Below.setCell ?_ (by first | omega | (simp; done) | (simp; omega) | (simp at *; omega)) _) | (with_reducible exact Below.refl _ _) | (with_reducible assumption) | (with_reducible refine Below.trans ?_ (Below.mono (by assumption) (by first | omega | (simp; done) | (simp; omega) | (simp at *; omega)))))))) hEb).mono ?_
  rintro e y2 ⟨rfl, hb2⟩
  have z2 := hb2.size
  try simp at z2
  have c2_0 : y2.cell? ⟨w.heap.size, 0, none⟩ = some (.slice A na ca) := by rw [(bcell hb2).1 _ _ (by first | (simp; done) | (simp; omega) | omega)]; simp [go_sem, World.cell?_alloc_past, *]
  have c2_1 : y2.cell? ⟨w.heap.size + 1, 0, none⟩ = some (.slice B nb cb) := by rw [(bcell hb2).1 _ _ (by first | (simp; done) | (simp; omega) | omega)]; simp [go_sem, World.cell?_alloc_past, *]
  have c2_2 : y2.cell? ⟨w.heap.size + 1 + 1, 0, none⟩ = some (.func (.func 80) #[] #[]) := by rw [(bcell hb2).1 _ _ (by first | (simp; done) | (simp; omega) | omega)]; simp [go_sem, World.cell?_alloc_past, *]
  have o2_0 : w.heap.size < y2.heap.size := by omega
  have n2_0 : y2.heap.size ≠ w.heap.size := by omega
  have m2_0 : w.heap.size ≠ y2.heap.size := by omega
  have o2_1 : w.heap.size + 1 < y2.heap.size := by omega
  have n2_1 : y2.heap.size ≠ w.heap.size + 1 := by omega
  have m2_1 : w.heap.size + 1 ≠ y2.heap.size := by omega
  have o2_2 : w.heap.size + 1 + 1 < y2.heap.size := by omega
  have n2_2 : y2.heap.size ≠ w.heap.size + 1 + 1 := by omega
  have m2_2 : w.heap.size + 1 + 1 ≠ y2.heap.size := by omega
  have hB2 : Below w.heap.size w y2 := (by (repeat (first | (with_reducible refine Below.drew ?_) | (with_reducible refine below_drewN ?_ _) | (with_reducible refine Below.alloc ?_ (by first | omega | (simp; done) | (simp; omega) | (simp at *; omega)) _) | (with_reducible refine Below.setCell ?_ (by first | omega | (simp; done) | (simp; omega) | (simp at *; omega)) _) | (with_reducible exact Below.refl _ _) | (with_reducible assumption) | (with_reducible refine Below.trans ?_ (Below.mono (by assumption) (by first | omega | (simp; done) | (simp; omega) | (simp at *; omega)))))))
  clear hb2 hB1 c1_0 o1_0 n1_0 m1_0 c1_1 o1_1 n1_1 m1_1 c1_2 o1_2 n1_2 m1_2
  go_wp2_with fail
  refine hK.out _ _ (by simp [go_sem, World.cell?_alloc_past, *]) (fun hHeld => ?_)
  clear hK K
  try simp only [Act.put, sA, sB, sC]
  refine wpAnyH_ready (rs := [4]) (by kernel_rfl) (by simp) ?_
  refine AllReadyH.cons rfl (fun K hK => ?_) AllReadyH.nil
  go_simp
  go_wp2_with fail
  refine hK.out _ _ (by simp [go_sem, World.cell?_alloc_past, *]) (fun hHeld => ?_)
  clear hK K
  try simp only [Act.put, sA, sB, sC]
  refine wpAnyH_ready (rs := [5]) (by kernel_rfl) (by simp) ?_
  refine AllReadyH.cons rfl (fun K hK => ?_) AllReadyH.nil
  go_simp
  refine (cF2x 0 0 0 _ _ (Lib.hid rfl) (by simp [go_sem]) (by simp [go_sem])).mono ?_
  rintro e w' ⟨rfl, rfl⟩
  go_wp2_with fail
  refine hK.out _ _ (by simp [go_sem, World.cell?_alloc_past, *]) (fun hHeld => ?_)
  clear hK K
  try simp only [Act.put, sA, sB, sC]
  refine tkH 6 ⟨some 8, _, _, _, _, _⟩ ?_ rfl ?_ (by assumption) ?_
  rotate_left
  · (intro w hSw; (try dsimp only at hSw); go_simp; all_goals with_reducible rfl)
  try simp only [Act.put, sA, sB, sC]
  refine wpAnyH_done (by kernel_rfl) ?_ _
  go_wp2_with fail
  refine (concat_is LA LB A B na nb ca cb (y2.heap.size + 1) _ hna hnb (by omega) (by omega) (Lib.hid ?ha) (Lib.hid ?hb) CA CB ?h0 ?h1 ?h2).mono ?_
  case ha =>
    intro w' h
    refine HA.out w' (Below.trans ?_ (h.mono ?_))
    · (repeat (first | (with_reducible refine Below.drew ?_) | (with_reducible refine below_drewN ?_ _) | (with_reducible refine Below.alloc ?_ (by first | omega | (simp; done) | (simp; omega) | (simp at *; omega)) _) | (with_reducible refine Below.setCell ?_ (by first | omega | (simp; done) | (simp; omega) | (simp at *; omega)) _) | (with_reducible exact Below.refl _ _) | (with_reducible assumption) | (with_reducible refine Below.trans ?_ (Below.mono (by assumption) (by first | omega | (simp; done) | (simp; omega) | (simp at *; omega))))))
    · simp; omega
  case hb =>
    intro w' h
    refine HB.out w' (Below.trans ?_ (h.mono ?_))
    · (repeat (first | (with_reducible refine Below.drew ?_) | (with_reducible refine below_drewN ?_ _) | (with_reducible refine Below.alloc ?_ (by first | omega | (simp; done) | (simp; omega) | (simp at *; omega)) _) | (with_reducible refine Below.setCell ?_ (by first | omega | (simp; done) | (simp; omega) | (simp at *; omega)) _) | (with_reducible exact Below.refl _ _) | (with_reducible assumption) | (with_reducible refine Below.trans ?_ (Below.mono (by assumption) (by first | omega | (simp; done) | (simp; omega) | (simp at *; omega))))))
    · simp; omega
  case h0 => simp [go_sem]
  case h1 => simp [go_sem]
  case h2 => simp
  rintro e x0 ⟨G0, cg0, rfl, hS0, hN0, hb0⟩
  have z0 := hb0.size
  try simp at z0
  have d0 : x0.cell? ⟨w.heap.size, 0, none⟩ = some (.slice A na ca) := by rw [(bcell hb0).1 _ _ (by first | (simp; done) | (simp; omega) | omega)]; simp [go_sem, World.cell?_alloc_past, *]
  have l0 : w.heap.size < x0.heap.size := by omega
  have d1 : x0.cell? ⟨w.heap.size + 1, 0, none⟩ = some (.slice B nb cb) := by rw [(bcell hb0).1 _ _ (by first | (simp; done) | (simp; omega) | omega)]; simp [go_sem, World.cell?_alloc_past, *]
  have l1 : w.heap.size + 1 < x0.heap.size := by omega
  have d2 : x0.cell? ⟨w.heap.size + 1 + 1, 0, none⟩ = some (.func (.func 80) #[] #[]) := by rw [(bcell hb0).1 _ _ (by first | (simp; done) | (simp; omega) | omega)]; simp [go_sem, World.cell?_alloc_past, *]
  have l2 : w.heap.size + 1 + 1 < x0.heap.size := by omega
  have hB0 : Below w.heap.size w x0 := (by (repeat (first | (with_reducible refine Below.drew ?_) | (with_reducible refine below_drewN ?_ _) | (with_reducible refine Below.alloc ?_ (by first | omega | (simp; done) | (simp; omega) | (simp at *; omega)) _) | (with_reducible refine Below.setCell ?_ (by first | omega | (simp; done) | (simp; omega) | (simp at *; omega)) _) | (with_reducible exact Below.refl _ _) | (with_reducible assumption) | (with_reducible refine Below.trans ?_ (Below.mono (by assumption) (by first | omega | (simp; done) | (simp; omega) | (simp at *; omega)))))))
  have HS0 := Lib.hid hS0
  have HLN : Hid ((LA ++ LB).length = na + nb) := Lib.hid (by rw [List.length_append, ← hna.out, ← hnb.out])
  have HIN : Hid (∀ r ∈ LA ++ LB, 0 ≤ r.lo ∧ r.lo ≤ r.hi ∧ r.hi ≤ 1000000) := Lib.hid fun r hr => by
    rcases List.mem_append.1 hr with h | h
    · exact win_in hEa.out r h
    · exact win_in hEb.out r h
  obtain ⟨N, hN⟩ : ∃ N, Hid (na + nb = N) := ⟨_, Lib.hid rfl⟩
  have hN30 : N ≤ 30 := by have := hN.out; omega
  have hNi : ((na : Int) + (nb : Int)) = (N : Int) := by have := hN.out; omega
  have hNn : na + nb = N := hN.out
  clear hb0 hS0 hN0 hB2 c2_0 o2_0 n2_0 m2_0 c2_1 o2_1 n2_1 m2_1 c2_2 o2_2 n2_2 m2_2
  go_wp2_with fail
  go_loopw [9, 26] (fun s9 i wr => ∃ (k : Nat) (G : Option Addr) (cg : Nat), i = .int .i64 k ∧ k ≤ N ∧ s9 = .slice G (k * 2) cg ∧ Hid (wr.ownsRow x0.heap.size 3 1 (.slice G (k * 2) cg) (k * 2) (rowsV intV (mks ((LA ++ LB).take k)))) ∧ Below x0.heap.size x0 wr) (fun _ i _ => N - (intOf i).toNat)
  case atStart => exact ⟨0, none, 0, rfl, by omega, rfl, Lib.hid ⟨rfl, .inl ⟨rfl, rfl⟩⟩, (by (repeat (first | (with_reducible refine Below.drew ?_) | (with_reducible refine below_drewN ?_ _) | (with_reducible refine Below.alloc ?_ (by first | omega | (simp; done) | (simp; omega) | (simp at *; omega)) _) | (with_reducible refine Below.setCell ?_ (by first | omega | (simp; done) | (simp; omega) | (simp at *; omega)) _) | (with_reducible exact Below.refl _ _) | (with_reducible assumption) | (with_reducible refine Below.trans ?_ (Below.mono (by assumption) (by first | omega | (simp; done) | (simp; omega) | (simp at *; omega)))))))⟩
  case round =>
    obtain ⟨k, G, cg, rfl, hk, rfl, HO, hB⟩ := hrel
    have hsz := hB.size
    by_cases hkn : k < N
    · have hkl : k < (LA ++ LB).length := by have := HLN.out; have := hN.out; omega
      have kn : (k : Int) < (N : Int) := by omega
      rcases HS0.out.below hB with h0 | ⟨bl, off, rfl, hlt, hRa⟩
      · rw [h0] at hkl; simp at hkl
      obtain ⟨e0, e1⟩ := rg_at hRa hkl
      have hin := HIN.out _ (List.getElem_mem hkl)
      have htk : (LA ++ LB).take (k + 1) = (LA ++ LB).take k ++ [(LA ++ LB)[k]] := List.take_succ_eq_append_getElem hkl
      have eg : (LA ++ LB).getD k default = (LA ++ LB)[k] := by rw [List.getD_eq_getElem?_getD, List.getElem?_eq_getElem hkl]; rfl
      obtain ⟨⟨a, b⟩, hx⟩ : ∃ x, Hid ((LA ++ LB)[k] = x) := ⟨_, Lib.hid rfl⟩
      rw [eg, hx.out] at e0 e1
      rw [hx.out] at hin htk
      dsimp only at e0 e1 hin
      obtain ⟨i1, i2, i3⟩ := hin
      have w1 : IntKind.i64.wrap (b + 1) = b + 1 := IntWalk.i64_in _ (by omega)
      have HRW : Hid (rowsV intV (mks ((LA ++ LB).take (k + 1))) = rowsV intV (mks ((LA ++ LB).take k)) ++ [.int .i64 a, .int .i64 (b + 1)]) := Lib.hid (by rw [htk, mks_snoc, rowsV_app]; rfl)
      have HML : Hid ((mks ((LA ++ LB).take (k + 1))).length = k * 2 + 2) := Lib.hid (by rw [mks_len, List.length_take]; omega)
      clear htk eg hRa
      go_wp2_with (at_builtin; refine wpList_append_own_at _ rfl _ _ 81 rfl x0.heap.size 3 i0 (.int .i64 0) 1 8 Tryz.underlying81 HI.out HZ0.out HZ1.out HZ2.out rfl (by decide) _ _ _ rfl (own_below HO.out (by exact (by (repeat (first | (with_reducible refine Below.drew ?_) | (with_reducible refine below_drewN ?_ _) | (with_reducible refine Below.alloc ?_ (by first | omega | (simp; done) | (simp; omega) | (simp at *; omega)) _) | (with_reducible refine Below.setCell ?_ (by first | omega | (simp; done) | (simp; omega) | (simp at *; omega)) _) | (with_reducible exact Below.refl _ _) | (with_reducible assumption) | (with_reducible refine Below.trans ?_ (Below.mono (by assumption) (by first | omega | (simp; done) | (simp; omega) | (simp at *; omega)))))))) (Nat.le_refl _)) ⟨wr.heap.size + 1, 0, none⟩ 2 2 [.int .i64 a, .int .i64 (b + 1)] rfl rfl ?a0 ?a1 ?a2 ?a3 ?a4 ?_)
      case a0 =>
        intro j v hj
        match j, hj with
        | 0, hj => simp at hj; subst hj; simp [Addr.add, go_sem]
        | 1, hj => simp at hj; subst hj; simp [Addr.add, go_sem]
      case a1 => intro v hv; simp at hv; rcases hv with rfl | rfl <;> rfl
      case a2 => unfold maxLen; omega
      case a3 => omega
      case a4 => simp; omega
      intro v' x5 hown hgrow hnn hblk
      have hB5 : Below x0.heap.size x0 x5 := Below.grown (by exact (by (repeat (first | (with_reducible refine Below.drew ?_) | (with_reducible refine below_drewN ?_ _) | (with_reducible refine Below.alloc ?_ (by first | omega | (simp; done) | (simp; omega) | (simp at *; omega)) _) | (with_reducible refine Below.setCell ?_ (by first | omega | (simp; done) | (simp; omega) | (simp at *; omega)) _) | (with_reducible exact Below.refl _ _) | (with_reducible assumption) | (with_reducible refine Below.trans ?_ (Below.mono (by assumption) (by first | omega | (simp; done) | (simp; omega) | (simp at *; omega)))))))) hgrow (by simp; omega) (fun r hr => (own_block HO.out r hr).1)
      have hown2 : x5.ownsRow x0.heap.size 3 1 v' (mks ((LA ++ LB).take (k + 1))).length (rowsV intV (mks ((LA ++ LB).take (k + 1)))) := by rw [HRW.out, HML.out]; exact hown
      obtain ⟨G5, cg5, hv5, _, _, _, _, _⟩ := SlRows_own (f := intV) (n := 1) (fun _ => rfl) hown2
      rw [HML.out] at hv5
      subst hv5
      have HO5 : Hid (x5.ownsRow x0.heap.size 3 1 (.slice G5 ((k + 1) * 2) cg5) ((k + 1) * 2) (rowsV intV (mks ((LA ++ LB).take (k + 1))))) := Lib.hid (by rw [HML.out] at hown2; rw [show (k + 1) * 2 = k * 2 + 2 by omega]; exact hown2)
      clear hown hown2 hgrow hnn hblk
      go_wp2
      go_roundw
      case rel => exact ⟨k + 1, G5, cg5, by go_num, by omega, by rw [show (k + 1) * 2 = k * 2 + 2 by omega], HO5, hB5⟩
      case measure => (simp [intOf]) <;> omega
    · have hkk : k = N := by omega
      have hT : (LA ++ LB).take k = LA ++ LB := List.take_of_length_le (by rw [HLN.out, hN.out]; omega)
      have hO := HO.out
      rw [hT] at hO
      have HO1 := Lib.hid hO
      have HML : Hid (k * 2 = (mks (LA ++ LB)).length) := Lib.hid (by rw [mks_len, HLN.out, hN.out]; omega)
      have k60 : k * 2 ≤ 60 := by omega
      have r0 := (hB.cell (p := ⟨_, 0, none⟩) l0).trans d0
      have r1 := (hB.cell (p := ⟨_, 0, none⟩) l1).trans d1
      have r2 := (hB.cell (p := ⟨_, 0, none⟩) l2).trans d2
      clear hT hO hkk hNn
      go_wp2_with fail
      refine (HSort.out x0.heap.size (mks (LA ++ LB)) G cg (k * 2) _ HML.out (by omega) HO1.out).mono ?_
      rintro e x6 ⟨rfl, hS6, hb6⟩
      have hB6 : Below x0.heap.size x0 x6 := hB.trans hb6
      have hBw : Below w.heap.size w x6 := hB0.trans (hB6.mono hB0.size)
      have z6 := hB6.size
      have g0 := (hB6.cell (p := ⟨_, 0, none⟩) l0).trans d0
      have g1 := (hB6.cell (p := ⟨_, 0, none⟩) l1).trans d1
      have g2 := (hB6.cell (p := ⟨_, 0, none⟩) l2).trans d2
      have HS6 := Lib.hid hS6
      have t0 : w.heap.size < x6.heap.size := by omega
      have t1 : w.heap.size + 1 < x6.heap.size := by omega
      have t2 : w.heap.size + 1 + 1 < x6.heap.size := by omega
      clear hS6 hb6 r0 r1 r2
      go_wp2_with fail
      refine (windowsOf_is (fun m => inW LA m || inW LB m) (srt (mks (LA ++ LB))) G cg (k * 2) (w.heap.size + 1 + 1) w.heap.size (w.heap.size + 1) _ (Lib.hid ?wa) k60 HBD.out (Lib.hid ?wb) (Lib.hid ?wd)).mono ?_
      case wa => rw [srt_len]; exact HML.out
      case wb => intro w' h; exact HS6.out.below h
      case wd =>
        intro m w' h
        exact jnC_is LA LB A B na nb ca cb _ _ _ m _ w' hna hnb na1 nb1 (Lib.hid fun w2 h2 => HA.out w2 (hBw.trans ((h.mono hBw.size).trans (h2.mono (Nat.le_trans hBw.size h.size))))) (Lib.hid fun w2 h2 => HB.out w2 (hBw.trans ((h.mono hBw.size).trans (h2.mono (Nat.le_trans hBw.size h.size)))))
          (Nat.lt_of_lt_of_le t2 h.size) (Nat.lt_of_lt_of_le t0 h.size) (Nat.lt_of_lt_of_le t1 h.size) ((h.cell (p := ⟨_, 0, none⟩) t2).trans g2) ((h.cell (p := ⟨_, 0, none⟩) t0).trans g0) ((h.cell (p := ⟨_, 0, none⟩) t1).trans g1) (Lib.hid rfl)
      rintro e x7 ⟨G7, cg7, rfl, hS7, hN7, hb7⟩
      have HS7 := Lib.hid hS7
      have HN7 := Lib.hid hN7
      have hB7 : Below w.heap.size w x7 := hBw.trans (hb7.mono hBw.size)
      clear hS7 hN7 hb7
      go_wp2
      go_ret2
      exact ⟨G7, cg7, rfl, HS7.out, HN7.out, hB7⟩
end Go.Proofs.YtojaompfffpofaaGreat
