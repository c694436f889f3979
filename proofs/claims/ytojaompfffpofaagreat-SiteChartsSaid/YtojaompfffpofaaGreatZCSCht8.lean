import Derived.Test.YtojaompfffpofaaGreatZCSFlat
import Derived.Outline
namespace Go.Proofs.YtojaompfffpofaaGreat
open Go.ChangeShapes Go.WideShapes Go.ChangeAt Go.RowKit
set_option linter.unusedVariables false
set_option linter.unusedSimpArgs false
attribute [local go_sem ↓] Go.wp_at_zero Go.wp_at_succ
theorem rowsV_one1 (vals : List Value) : rowsV (fun v => [v]) vals = vals := by
  induction vals with
  | nil => rfl
  | cons v r ih => unfold rowsV at ih ⊢; simp
theorem ownsC_setCell_below {w : World} {base : Nat} {e : TypeId} {s n : Nat} {v : Value} {xs : List Value} (h : w.ownsRow base e s v n xs) {a : Addr} (ha : a.block < base) (u : Value) : (w.setCell a u).ownsRow base e s v n xs := by
  refine ⟨h.1, ?_⟩
  rcases h.2 with hn | ⟨g, cap, cur, rfl, hb, hg, hrest⟩
  · exact .inl hn
  · exact .inr ⟨g, cap, cur, rfl, hb, (Below.heap_setCell _ _ _ _ (by omega)).trans hg, hrest⟩
theorem strl_other {w w' : World} {A : Option Addr} {L : List ByteArray} (h : SlRows strV 1 w A L) (hb : ∀ a, A = some a → w'.heap[a.block]? = w.heap[a.block]?) (hs : w.heap.size ≤ w'.heap.size) : SlRows strV 1 w' A L := by
  rcases h with h | ⟨b, off, rfl, hlt, h⟩
  · exact Or.inl h
  · exact Or.inr ⟨b, off, rfl, by omega, fun k hk i hi => (World.cell?_of_block (a := ⟨b, off + k * 1 + i, none⟩) (hb ⟨b, off, none⟩ rfl)).trans (h k hk i hi)⟩
theorem CpL.other {M : List (List Int)} {G : Option Addr} {k base : Nat} {vals : List Value} {w w' : World} (h : CpL M G k vals base w) (hb : ∀ b, base ≤ b → w'.heap[b]? = w.heap[b]?) (hs : w.heap.size ≤ w'.heap.size) : CpL M G k vals base w' := by
  refine ⟨h.len, fun j hj => ?_⟩
  obtain ⟨A, cap, r1, r2, r3, r4⟩ := h.row j hj
  refine ⟨A, cap, r1, ?_, r3, fun a ha hne => ⟨by have := (r4 a ha hne).1; omega, (r4 a ha hne).2⟩⟩
  by_cases hL : M.getD j [] = []
  · exact Or.inl hL
  cases A with
  | none => exact Or.inl (slr_none r2)
  | some a => exact slr_grown r2 (fun a' ha' => hb _ ((r4 a' ha' hL).2.2)) hs
theorem cpl_mat {w : World} {base b2 m cg : Nat} {G : Option Addr} {M : List (List Int)} {vals : List Value} (hm : m = M.length) (ho : w.ownsRow base 81 1 (.slice G m cg) m vals) (hc : CpL M G m vals b2 w) : SlMatC w G M := by
  obtain ⟨A, c, hv, hS, _, _, _, _⟩ := SlRows_own (f := fun v : Value => [v]) (n := 1) (L := vals) (fun _ => rfl) (by rw [rowsV_one1, hc.len]; exact ho)
  injection hv with e1 e2 e3
  subst e1
  rcases hS with h | ⟨b, off, rfl, hlt, h⟩
  · left
    have := hc.len
    rw [h] at this
    exact List.eq_nil_of_length_eq_zero (by rw [← hm]; exact this.symm)
  · right
    refine ⟨b, off, rfl, hlt, fun k hk => ?_⟩
    obtain ⟨A, cap, h1, h2, h3, _⟩ := hc.row k (by omega)
    have hkv : k < vals.length := by rw [hc.len]; omega
    have h4 := h k hkv 0 (by omega)
    rw [List.getElem?_eq_getElem hkv] at h1
    injection h1 with h1
    rw [h1, Nat.mul_one, Nat.add_zero] at h4
    exact ⟨A, cap, h4, h2, h3⟩
/-- The copy of a chart. -/
def ChtP (Pl : List ByteArray) (M : List (List Int)) (n m : Nat) (w : World) (e : Ending) (w' : World) : Prop := ∃ (G H : Option Addr) (cg ch : Nat), e = .returned (.agg #[.slice G n cg, .slice H m ch]) ∧ SlRows strV 1 w' G Pl ∧ SlMatC w' H M ∧ Below w.heap.size w w'
structure Ch2 (A B : Option Addr) (n m ca cb : Nat) (w X : World) : Prop where
  ch : ChS A B n m ca cb w X
  z0 : X.cell? ⟨w.heap.size + 1, 0, none⟩ = some (.slice none 0 0)
  z1 : X.cell? ⟨w.heap.size + 1, 1, none⟩ = some (.slice none 0 0)
  fr : ∀ j, X.frozen? ⟨w.heap.size + 1, j, none⟩ = false
  l1 : w.heap.size + 1 < X.heap.size
theorem Ch2.below {A B : Option Addr} {n m ca cb : Nat} {w X X' : World} (h : Ch2 A B n m ca cb w X) (hb : Below X.heap.size X X') : Ch2 A B n m ca cb w X' := by
  have z := hb.size
  have l := h.l1
  exact ⟨h.ch.below hb, (hb.cell (p := ⟨w.heap.size + 1, 0, none⟩) l).trans h.z0, (hb.cell (p := ⟨w.heap.size + 1, 1, none⟩) l).trans h.z1, fun j => (hb.frozen (p := ⟨w.heap.size + 1, j, none⟩) l).trans (h.fr j), by omega⟩
set_option maxRecDepth 100000 in
set_option maxHeartbeats 2000000 in
theorem chart_is (A B : Option Addr) (n m ca cb : Nat) (Pl : List ByteArray) (M : List (List Int)) (w : World) (hn : Hid (n = Pl.length)) (hm : Hid (m = M.length)) (hl : n ≤ 1000) (hl2 : m ≤ 1000) (hsm : Hid (∀ k, k < m → (M.getD k []).length ≤ 1000000)) (CA : Hid (A = none → n = 0 ∧ ca = 0)) (HP0 : Hid (SlRows strV 1 w A Pl)) (HM0 : Hid (SlMatC w B M)) :
    Calls Tryz.prog 44 #[.agg #[.slice A n ca, .slice B m cb]] w (ChtP Pl M n m w) := by
  go_enter Tryz.func44, Tryz.ntmps44
  go_upto_region 1 with (fail)
  refine wp_world (Ch2 A B n m ca cb w) ⟨⟨by simp [go_sem, World.cell?_alloc_past], by simp [go_sem, World.cell?_alloc_past], (by (repeat (first | (with_reducible refine Below.drew ?_) | (with_reducible refine below_drewN ?_ _) | (with_reducible refine Below.alloc ?_ (by first | omega | (simp; done) | (simp; omega) | (simp at *; omega)) _) | (with_reducible refine Below.setCell ?_ (by first | omega | (simp; done) | (simp; omega) | (simp at *; omega)) _) | (with_reducible exact Below.refl _ _) | (with_reducible assumption) | (with_reducible refine Below.trans ?_ (Below.mono (by assumption) (by first | omega | (simp; done) | (simp; omega) | (simp at *; omega))))))), by simp; omega⟩, by simp [go_sem, World.cell?_alloc_past], by simp [go_sem, World.cell?_alloc_past], (by intro j; simp [go_sem]), by simp⟩ (fun u hu => ?_)
  have HU := Lib.hid hu
  have HS : Hid (∀ x, Below u.heap.size u x → Ch2 A B n m ca cb w x) := Lib.hid fun x hx => HU.out.below hx
  have HP : Hid (∀ x, Below u.heap.size u x → SlRows strV 1 x A Pl) := Lib.hid fun x hx => HP0.out.below (HU.out.below hx).ch.be
  have HM : Hid (∀ x, Below u.heap.size u x → SlMatC x B M) := Lib.hid fun x hx => HM0.out.below (HU.out.below hx).ch.be
  obtain ⟨⟨c0, c1, hBe, hlt⟩, z0, z1, fr, l1⟩ := hu
  refine wp_region_held_drew (S := (fun w' => w'.cell? ⟨w.heap.size, 0, none⟩ = some (.slice A n ca) ∧ w'.cell? ⟨w.heap.size, 1, none⟩ = some (.slice B m cb))) (by kernel_rfl) (by simp [go_sem, World.cell?_alloc_past, *]) (fun hHeld => ?_)
  refine tkH 0 ⟨some 3, _, _, _, _, _⟩ ?_ rfl ?_ (by assumption) ?_
  rotate_left
  · (intro w hSw; (try dsimp only at hSw); go_simp; all_goals with_reducible rfl)
  try simp only [Act.put, sA, sB, sC]
  refine tkH 1 ⟨some 4, _, _, _, _, _⟩ ?_ rfl ?_ (by assumption) ?_
  rotate_left
  · (intro w hSw; (try dsimp only at hSw); go_simp; all_goals with_reducible rfl)
  try simp only [Act.put, sA, sB, sC]
  refine tkH 3 ⟨some 6, _, _, _, _, _⟩ ?_ rfl ?_ (by assumption) ?_
  rotate_left
  · (intro w hSw; (try dsimp only at hSw); go_simp; all_goals with_reducible rfl)
  try simp only [Act.put, sA, sB, sC]
  refine tkH 4 ⟨some 7, _, _, _, _, _⟩ ?_ rfl ?_ (by assumption) ?_
  rotate_left
  · (intro w hSw; (try dsimp only at hSw); go_simp; all_goals with_reducible rfl)
  try simp only [Act.put, sA, sB, sC]
  refine wpAnyH_ready (rs := [2]) (by kernel_rfl) (by simp) ?_
  refine AllReadyH.cons rfl (fun K hK => ?_) AllReadyH.nil
  go_simp
  refine (copyTxt_is Pl A ca n _ hn (by omega) (HP.out _ (by (repeat (first | (with_reducible refine Below.drew ?_) | (with_reducible refine below_drewN ?_ _) | (with_reducible refine Below.alloc ?_ (by first | omega | (simp; done) | (simp; omega) | (simp at *; omega)) _) | (with_reducible refine Below.setCell ?_ (by first | omega | (simp; done) | (simp; omega) | (simp at *; omega)) _) | (with_reducible exact Below.refl _ _) | (with_reducible assumption) | (with_reducible refine Below.trans ?_ (Below.mono (by assumption) (by first | omega | (simp; done) | (simp; omega) | (simp at *; omega)))))))) CA).mono ?_
  rintro e x1 ⟨G, cg, rfl, hS1, _, hge1, hb1⟩
  have hB1 : Below u.heap.size u x1 := (by (repeat (first | (with_reducible refine Below.drew ?_) | (with_reducible refine below_drewN ?_ _) | (with_reducible refine Below.alloc ?_ (by first | omega | (simp; done) | (simp; omega) | (simp at *; omega)) _) | (with_reducible refine Below.setCell ?_ (by first | omega | (simp; done) | (simp; omega) | (simp at *; omega)) _) | (with_reducible exact Below.refl _ _) | (with_reducible assumption) | (with_reducible refine Below.trans ?_ (Below.mono (by assumption) (by first | omega | (simp; done) | (simp; omega) | (simp at *; omega)))))))
  have zu1 := hB1.size
  have HS1 := Lib.hid hS1
  have HGE1 : Hid (∀ ad, G = some ad → u.heap.size ≤ ad.block) := Lib.hid fun ad ha => by have := hge1 ad ha; simpa using this
  clear hb1 hS1 hge1 c0 c1 hBe hlt z0 z1 fr l1
  obtain ⟨⟨c0, c1, hBe, hlt⟩, z0, z1, fr, l1⟩ := HS.out _ hB1
  go_wp2_with fail
  refine hK.out _ _ (by simp [go_sem, World.cell?_alloc_past, *]) (fun hHeld => ?_)
  clear hK K
  try simp only [Act.put, sA, sB, sC]
  refine wpAnyH_ready (rs := [5]) (by kernel_rfl) (by simp) ?_
  refine AllReadyH.cons rfl (fun K hK => ?_) AllReadyH.nil
  go_simp
  refine (copyLists_is M B cb m _ hm hl2 (Lib.hid (HM.out _ hB1)) hsm).mono ?_
  rintro e x2 ⟨H, ch, vals, rfl, hO, hC, hb2⟩
  have hB2 : Below u.heap.size u x2 := hB1.trans (hb2.mono zu1)
  have zu2 := hb2.size
  have HS2 := Lib.hid (HS1.out.below hb2)
  have HO := Lib.hid hO
  have HC := Lib.hid hC
  clear hO hC hB1 c0 c1 hBe hlt z0 z1 fr l1
  obtain ⟨⟨c0, c1, hBe, hlt⟩, z0, z1, fr, l1⟩ := HS.out _ hB2
  have hbe2 := hBe
  obtain ⟨V3, hV3⟩ : ∃ v, v = (x2.setCell ⟨w.heap.size + 1, 0, none⟩ (.slice G n cg)).setCell ⟨w.heap.size + 1, 1, none⟩ (.slice H m ch) := ⟨_, rfl⟩
  have HF : Hid (SlRows strV 1 V3 G Pl ∧ SlMatC V3 H M ∧ Below w.heap.size w V3) := Lib.hid (by
    have hl9 := (HU.out).l1
    have nb : ∀ b, b ≠ w.heap.size + 1 → V3.heap[b]? = x2.heap[b]? := fun b hb => by rw [hV3]; exact (Below.heap_setCell _ _ _ _ hb).trans (Below.heap_setCell _ _ _ _ hb)
    have zs : V3.heap.size = x2.heap.size := by rw [hV3]; simp
    refine ⟨strl_other HS2.out (fun a ha => nb _ (by have := HGE1.out a ha; omega)) (by omega), cpl_mat hm.out (by rw [hV3]; exact ownsC_setCell_below (ownsC_setCell_below HO.out (by show w.heap.size + 1 < _; omega) _) (by show w.heap.size + 1 < _; omega) _) (HC.out.other (fun b hb => nb b (by omega)) (by omega)), ?_⟩
    rw [hV3]; exact (hbe2.setCell (p := ⟨w.heap.size + 1, 0, none⟩) (by show w.heap.size ≤ w.heap.size + 1; omega) _).setCell (p := ⟨w.heap.size + 1, 1, none⟩) (by show w.heap.size ≤ w.heap.size + 1; omega) _)
  rw [hV3] at HF
  clear hV3 V3 hbe2 HU
  go_wp2_with fail
  refine hK.out _ _ (by simp [go_sem, World.cell?_alloc_past, *]) (fun hHeld => ?_)
  clear hK K
  try simp only [Act.put, sA, sB, sC]
  refine tkH 6 ⟨some 9, _, _, _, _, _⟩ ?_ rfl ?_ (by assumption) ?_
  rotate_left
  · (intro w hSw; (try dsimp only at hSw); go_simp; all_goals with_reducible rfl)
  try simp only [Act.put, sA, sB, sC]
  refine wpAnyH_ready (rs := [7]) (by kernel_rfl) (by simp) ?_
  refine AllReadyH.cons rfl (fun K hK => ?_) AllReadyH.nil
  go_simp
  go_wp2_with fail
  refine hK.out _ _ (by simp [go_sem, World.cell?_alloc_past, *]) (fun hHeld => ?_)
  clear hK K
  try simp only [Act.put, sA, sB, sC]
  refine wpAnyH_done (by kernel_rfl) ?_ _
  go_wp2
  refine bodyPost_ret (v := .agg #[.slice G n cg, .slice H m ch]) (by simp [results, Tryz.results44, go_sem, World.cell?_alloc_past, *]) rfl ⟨G, H, cg, ch, rfl, ?_, ?_, ?_⟩
  · exact HF.out.1
  · exact HF.out.2.1
  · exact HF.out.2.2
end Go.Proofs.YtojaompfffpofaaGreat
