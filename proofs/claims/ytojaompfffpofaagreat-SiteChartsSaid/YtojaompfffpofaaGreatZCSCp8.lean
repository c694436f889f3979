import Derived.Test.YtojaompfffpofaaGreatZCSFit9
import Derived.Test.YtojaompfffpofaaGreatZCSRefCh
import Derived.Test.YtojaompfffpofaaGreatZCSCat
import Derived.Outline
import Derived.BigQuiet
namespace Go.Proofs.YtojaompfffpofaaGreat
open Go.ChangeShapes Go.WideShapes Go.ChangeAt Go.RowKit
set_option linter.unusedVariables false
set_option linter.unusedSimpArgs false
attribute [local go_sem ↓] Go.wp_at_zero Go.wp_at_succ
/-- A copy in memory of its own. -/
def CopyV {α : Type} (f : α → List Value) (s n : Nat) (L : List α) (w : World) (e : Ending) (w' : World) : Prop := ∃ (G : Option Addr) (cg : Nat), e = .returned (.slice G n cg) ∧ SlRows f s w' G L ∧ (G = none → n = 0 ∧ cg = 0) ∧ (∀ ad, G = some ad → w.heap.size ≤ ad.block) ∧ Below w.heap.size w w'
theorem infoSt : (Tryz.prog.info? 9).map (fun i => (i.zero, i.size, i.bytes)) = some (some (.string ⟨#[]⟩), 1, 16) := by kernel_rfl
theorem strV_one : ∀ g, ∀ u ∈ strV g, u.oneCell' = true := by
  intro g u hu
  simp [strV] at hu
  subst hu; rfl
theorem int_src8 {V : World} {A : Option Addr} {L : List Int} (h : SlRows intV 1 V A L) : ∀ ad, A = some ad → ∀ j u, (rowsV intV L)[j]? = some u → V.cell? (ad.add j) = some u := by
  intro ad had j u hj
  rcases h with h | ⟨b, off, rfl, hlt, h⟩
  · rw [h] at hj; simp [rowsV] at hj
  · cases had; exact rowsV_cells (f := intV) (n := 1) (fun _ => rfl) (by decide) h j u hj
theorem str_src {V : World} {A : Option Addr} {L : List ByteArray} (h : SlRows strV 1 V A L) : ∀ ad, A = some ad → ∀ j u, (rowsV strV L)[j]? = some u → V.cell? (ad.add j) = some u := by
  intro ad had j u hj
  rcases h with h | ⟨b, off, rfl, hlt, h⟩
  · rw [h] at hj; simp [rowsV] at hj
  · cases had; exact rowsV_cells (f := strV) (n := 1) (fun _ => rfl) (by decide) h j u hj
theorem copyInt_is (L : List Int) (A : Option Addr) (cap n : Nat) (w : World) (hn : Hid (n = L.length)) (hl : n ≤ 1000000) (hS : SlRows intV 1 w A L) (hC : Hid (A = none → n = 0 ∧ cap = 0)) :
    Calls Tryz.prog 49 #[.slice A n cap] w (CopyV intV 1 n L w) := by
  obtain ⟨i0, hi, hz0, hz1, hz2⟩ := info_partsS infoIn
  have HI := Lib.hid hi
  have HZ0 := Lib.hid hz0
  have HZ1 := Lib.hid hz1
  have HZ2 := Lib.hid hz2
  have HL := Lib.hid (rowsV_len (f := intV) (n := 1) (fun _ => rfl) L)
  rw [← hn.out] at HL
  have HO := Lib.hid (World.ownsRow_made (base := w.heap.size) (e := 3) (size := 1) w #[] 0 (Nat.le_refl _) (by simp) (by simp))
  have HX := Lib.hid (int_src8 (hS.below (Below.alloc (Below.refl _ w) (Nat.le_refl _) (.cells #[] 3))))
  clear hi hz0 hz1 hz2 hS
  go_enter Tryz.func49, Tryz.ntmps49
  go_wp2_with (at_builtin; refine wpList_append_sl rfl _ _ 81 rfl w.heap.size 3 i0 (.int .i64 0) 1 8 Tryz.underlying81 HI.out HZ0.out HZ1.out HZ2.out rfl (by decide) _ 0 [] rfl HO.out A n cap (rowsV intV L) rfl hC.out HL.out HX.out (rows_one intV_one L) ?c1 ?c2 ?c3 ?_)
  case c1 => unfold maxLen; omega
  case c2 => omega
  case c3 => simp
  intro v' w1 hown hgrow hblk
  have hB : Below w.heap.size w w1 := ((Below.refl w.heap.size w).alloc (Nat.le_refl _) _).grown hgrow (by simp) (by intro k hk; simp [Value.ownBlock] at hk; omega)
  (try simp only [Nat.zero_add, List.nil_append] at hown)
  obtain ⟨G, cg, hv, hS, hGB, hN, _, _⟩ := SlRows_own (f := intV) (n := 1) (L := L) (fun _ => rfl) (by rw [← hn.out]; exact hown)
  rw [← hn.out] at hv
  subst hv
  have HS := Lib.hid hS
  have HGB := Lib.hid hGB
  have HN : Hid (G = none → n = 0 ∧ cg = 0) := Lib.hid fun h => And.intro (by
    rcases hown.2 with ⟨_, h0⟩ | ⟨g, _, _, hv, _⟩
    · exact h0
    · rw [h] at hv; cases hv) (hN h)
  clear hown hgrow hblk hS hN hGB
  go_wp2
  go_ret
  exact ⟨G, cg, rfl, HS.out, HN.out, HGB.out, hB⟩
theorem copyTxt_is (L : List ByteArray) (A : Option Addr) (cap n : Nat) (w : World) (hn : Hid (n = L.length)) (hl : n ≤ 1000000) (hS : SlRows strV 1 w A L) (hC : Hid (A = none → n = 0 ∧ cap = 0)) :
    Calls Tryz.prog 90 #[.slice A n cap] w (CopyV strV 1 n L w) := by
  obtain ⟨i0, hi, hz0, hz1, hz2⟩ := info_partsS infoSt
  have HI := Lib.hid hi
  have HZ0 := Lib.hid hz0
  have HZ1 := Lib.hid hz1
  have HZ2 := Lib.hid hz2
  have HL := Lib.hid (rowsV_len (f := strV) (n := 1) (fun _ => rfl) L)
  rw [← hn.out] at HL
  have HO := Lib.hid (World.ownsRow_made (base := w.heap.size) (e := 9) (size := 1) w #[] 0 (Nat.le_refl _) (by simp) (by simp))
  have HX := Lib.hid (str_src (hS.below (Below.alloc (Below.refl _ w) (Nat.le_refl _) (.cells #[] 9))))
  clear hi hz0 hz1 hz2 hS
  go_enter Tryz.func90, Tryz.ntmps90
  go_wp2_with (at_builtin; refine wpList_append_sl rfl _ _ 75 rfl w.heap.size 9 i0 (.string ⟨#[]⟩) 1 16 Tryz.underlying75 HI.out HZ0.out HZ1.out HZ2.out rfl (by decide) _ 0 [] rfl HO.out A n cap (rowsV strV L) rfl hC.out HL.out HX.out (rows_one strV_one L) ?c1 ?c2 ?c3 ?_)
  case c1 => unfold maxLen; omega
  case c2 => omega
  case c3 => simp
  intro v' w1 hown hgrow hblk
  have hB : Below w.heap.size w w1 := ((Below.refl w.heap.size w).alloc (Nat.le_refl _) _).grown hgrow (by simp) (by intro k hk; simp [Value.ownBlock] at hk; omega)
  (try simp only [Nat.zero_add, List.nil_append] at hown)
  obtain ⟨G, cg, hv, hS, hGB, hN, _, _⟩ := SlRows_own (f := strV) (n := 1) (L := L) (fun _ => rfl) (by rw [← hn.out]; exact hown)
  rw [← hn.out] at hv
  subst hv
  have HS := Lib.hid hS
  have HGB := Lib.hid hGB
  have HN : Hid (G = none → n = 0 ∧ cg = 0) := Lib.hid fun h => And.intro (by
    rcases hown.2 with ⟨_, h0⟩ | ⟨g, _, _, hv, _⟩
    · exact h0
    · rw [h] at hv; cases hv) (hN h)
  clear hown hgrow hblk hS hN hGB
  go_wp2
  go_ret
  exact ⟨G, cg, rfl, HS.out, HN.out, HGB.out, hB⟩
/-- Rows of numbers, each a slice of its own; no row: no room. -/
def SlMatC (w : World) (B : Option Addr) (M : List (List Int)) : Prop := M = [] ∨ ∃ b off, B = some ⟨b, off, none⟩ ∧ b < w.heap.size ∧ ∀ k, k < M.length → ∃ A cap, w.cell? ⟨b, off + k, none⟩ = some (.slice A (M.getD k []).length cap) ∧ SlRows intV 1 w A (M.getD k []) ∧ (A = none → cap = 0)
theorem SlMatC.mat {w : World} {B : Option Addr} {M : List (List Int)} (h : SlMatC w B M) : SlMat w B M := by
  rcases h with h | ⟨b, off, h1, h2, h3⟩
  · exact Or.inl h
  · exact Or.inr ⟨b, off, h1, h2, fun k hk => by obtain ⟨A, cap, h4, h5, _⟩ := h3 k hk; exact ⟨A, cap, h4, h5⟩⟩
theorem SlMatC.below {w w' : World} {B : Option Addr} {M : List (List Int)} (h : SlMatC w B M) (hb : Below w.heap.size w w') : SlMatC w' B M := by
  rcases h with h | ⟨b, off, rfl, hlt, h⟩
  · exact Or.inl h
  · refine Or.inr ⟨b, off, rfl, Nat.lt_of_lt_of_le hlt hb.size, fun k hk => ?_⟩
    obtain ⟨A, cap, h1, h2, h3⟩ := h k hk
    exact ⟨A, cap, (hb.cell (p := ⟨b, _, none⟩) hlt).trans h1, h2.below hb, h3⟩
theorem slr_grown {w w' : World} {A : Option Addr} {L : List Int} (h : SlRows intV 1 w A L) (hb : ∀ a, A = some a → w'.heap[a.block]? = w.heap[a.block]?) (hs : w.heap.size ≤ w'.heap.size) : SlRows intV 1 w' A L := by
  rcases h with h | ⟨b, off, rfl, hlt, h⟩
  · exact Or.inl h
  · exact Or.inr ⟨b, off, rfl, by omega, fun k hk i hi => (World.cell?_of_block (a := ⟨b, off + k * 1 + i, none⟩) (hb ⟨b, off, none⟩ rfl)).trans (h k hk i hi)⟩
theorem slr_lt {w : World} {A : Option Addr} {L : List Int} (h : SlRows intV 1 w A L) : L = [] ∨ ∀ a, A = some a → a.block < w.heap.size := by
  rcases h with h | ⟨b, off, rfl, hlt, h⟩
  · exact Or.inl h
  · exact Or.inr fun a ha => by cases ha; exact hlt
theorem infoLi : (Tryz.prog.info? 81).map (fun i => (i.zero, i.size, i.bytes)) = some (some (.slice none 0 0), 1, 24) := by kernel_rfl
/-- The rows that were copied so far. -/
structure CpL (M : List (List Int)) (G : Option Addr) (k : Nat) (vals : List Value) (base : Nat) (w : World) : Prop where
  len : vals.length = k
  row : ∀ j, j < k → ∃ A cap, vals[j]? = some (.slice A (M.getD j []).length cap) ∧ SlRows intV 1 w A (M.getD j []) ∧ (A = none → cap = 0) ∧ (∀ a, A = some a → M.getD j [] ≠ [] → a.block < w.heap.size ∧ (∀ g, G = some g → a.block ≠ g.block) ∧ base ≤ a.block)
theorem slr_none {w : World} {L : List Int} (h : SlRows intV 1 w none L) : L = [] := by
  rcases h with h | ⟨b, o, h, _⟩
  · exact h
  · cases h
set_option maxRecDepth 100000 in
set_option maxHeartbeats 2000000 in
theorem copyLists_is (M : List (List Int)) (B : Option Addr) (cap m : Nat) (w : World) (hm : Hid (m = M.length)) (hl : m ≤ 1000) (HM : Hid (SlMatC w B M)) (hsm : Hid (∀ k, k < m → (M.getD k []).length ≤ 1000000)) :
    Calls Tryz.prog 91 #[.slice B m cap] w fun e w' => ∃ (G : Option Addr) (cg : Nat) (vals : List Value), e = .returned (.slice G m cg) ∧ w'.ownsRow w.heap.size 81 1 (.slice G m cg) m vals ∧ CpL M G m vals w.heap.size w' ∧ Below w.heap.size w w' := by
  have HX : Hid (∀ x, Below w.heap.size w x → SlMatC x B M) := Lib.hid fun x hx => HM.out.below hx
  obtain ⟨i0, hi, hz0, hz1, hz2⟩ := info_partsS infoLi
  have HI := Lib.hid hi
  have HZ0 := Lib.hid hz0
  have HZ1 := Lib.hid hz1
  have HZ2 := Lib.hid hz2
  clear hi hz0 hz1 hz2 HM
  go_enter Tryz.func91, Tryz.ntmps91
  go_wp2
  go_loopw [3, 4] (fun t i wr => ∃ (k : Nat) (G : Option Addr) (cg : Nat) (vals : List Value), i = .int .i64 k ∧ k ≤ m ∧ t = .slice G k cg ∧ Hid (wr.ownsRow w.heap.size 81 1 (.slice G k cg) k vals) ∧ Hid (CpL M G k vals w.heap.size wr) ∧ Below w.heap.size w wr) (fun _ i _ => m - (intOf i).toNat)
  case atStart => exact ⟨0, none, 0, [], rfl, by omega, rfl, Lib.hid ⟨rfl, .inl ⟨rfl, rfl⟩⟩, Lib.hid ⟨rfl, fun j hj => by omega⟩, (by (repeat (first | (with_reducible refine Below.drew ?_) | (with_reducible refine below_drewN ?_ _) | (with_reducible refine Below.alloc ?_ (by first | omega | (simp; done) | (simp; omega) | (simp at *; omega)) _) | (with_reducible refine Below.setCell ?_ (by first | omega | (simp; done) | (simp; omega) | (simp at *; omega)) _) | (with_reducible exact Below.refl _ _) | (with_reducible assumption) | (with_reducible refine Below.trans ?_ (Below.mono (by assumption) (by first | omega | (simp; done) | (simp; omega) | (simp at *; omega)))))))⟩
  case round =>
    obtain ⟨k, G, cg, vals, rfl, hk, rfl, HO, HC, hB⟩ := hrel
    have hsz := hB.size
    by_cases hkm : k < m
    · have km : (k : Int) < (m : Int) := by omega
      have hkl : k < M.length := by have := hm.out; omega
      rcases HX.out _ hB with h0 | ⟨b, off, rfl, hbl, hMt⟩
      · rw [h0] at hkl; simp at hkl
      obtain ⟨C, cc, h1, h2, h3⟩ := hMt k hkl
      obtain ⟨R, hR⟩ : ∃ R, Hid (M.getD k [] = R) := ⟨_, Lib.hid rfl⟩
      have hRl := hsm.out k hkm
      rw [hR.out] at h1 h2 hRl
      have hR0 : C = none → R.length = 0 := fun h => by
        rw [h] at h2
        rw [slr_none h2]; rfl
      have hCn : Hid (C = none → R.length = 0 ∧ cc = 0) := Lib.hid fun h => ⟨hR0 h, h3 h⟩
      clear hR0
      clear hMt h3
      go_wp2_with fail
      refine (copyInt_is R C cc R.length _ (Lib.hid rfl) hRl h2 hCn).mono ?_
      rintro e x1 ⟨G1, c1, rfl, hS1, hN1, hge, hb1⟩
      have HS1 := Lib.hid hS1
      have HN1 := Lib.hid hN1
      have HGE := Lib.hid hge
      have HB1 := Lib.hid hb1
      have z1 := hb1.size
      have HO1 := Lib.hid (own_below HO.out hb1 (Nat.le_refl _))
      have hBX : Below w.heap.size w x1 := hB.trans (hb1.mono hsz)
      clear hS1 hN1 hge hb1 h1 h2
      go_wp2_with (at_builtin; refine wpList_append_own_at _ rfl _ _ 76 rfl w.heap.size 81 i0 (.slice none 0 0) 1 24 Tryz.underlying76 HI.out HZ0.out HZ1.out HZ2.out rfl (by decide) _ _ _ rfl (own_below (N := x1.heap.size) HO1.out (by exact (by (repeat (first | (with_reducible refine Below.drew ?_) | (with_reducible refine below_drewN ?_ _) | (with_reducible refine Below.alloc ?_ (by first | omega | (simp; done) | (simp; omega) | (simp at *; omega)) _) | (with_reducible refine Below.setCell ?_ (by first | omega | (simp; done) | (simp; omega) | (simp at *; omega)) _) | (with_reducible exact Below.refl _ _) | (with_reducible assumption) | (with_reducible refine Below.trans ?_ (Below.mono (by assumption) (by first | omega | (simp; done) | (simp; omega) | (simp at *; omega)))))))) (Nat.le_refl _)) ⟨x1.heap.size, 0, none⟩ 1 1 [.slice G1 R.length c1] rfl rfl ?b0 ?b1 ?b2 ?b3 ?b4 ?_)
      case b0 =>
        intro j v hj
        match j, hj with
        | 0, hj => simp at hj; subst hj; simp [Addr.add, go_sem]
      case b1 => intro v hv; simp at hv; subst hv; rfl
      case b2 => unfold maxLen; omega
      case b3 => omega
      case b4 => first | omega | (simp; omega)
      intro v' x5 hown hgrow hnn hblk
      have hB5 : Below w.heap.size w x5 := Below.grown (by exact (by (repeat (first | (with_reducible refine Below.drew ?_) | (with_reducible refine below_drewN ?_ _) | (with_reducible refine Below.alloc ?_ (by first | omega | (simp; done) | (simp; omega) | (simp at *; omega)) _) | (with_reducible refine Below.setCell ?_ (by first | omega | (simp; done) | (simp; omega) | (simp at *; omega)) _) | (with_reducible exact Below.refl _ _) | (with_reducible assumption) | (with_reducible refine Below.trans ?_ (Below.mono (by assumption) (by first | omega | (simp; done) | (simp; omega) | (simp at *; omega)))))))) hgrow (by simp; omega) (fun r hr => (own_block HO.out r hr).1)
      have HGR := Lib.hid hgrow
      have HBK := Lib.hid hblk
      have HOW := Lib.hid hown
      clear hown hgrow hnn hblk
      rcases HOW.out.2 with ⟨h9, h8⟩ | ⟨g5, cap5, cur5, hv5, hg5, hh5, _⟩
      · omega
      subst hv5
      have hpre : ∀ (a : Addr) (L : List Int), SlRows intV 1 x1 (some a) L → a.block < x1.heap.size → (∀ g, G = some g → a.block ≠ g.block) → SlRows intV 1 x5 (some a) L := fun a L hs hlt hne => slr_grown (hs.below (by (repeat (first | (with_reducible refine Below.drew ?_) | (with_reducible refine below_drewN ?_ _) | (with_reducible refine Below.alloc ?_ (by first | omega | (simp; done) | (simp; omega) | (simp at *; omega)) _) | (with_reducible refine Below.setCell ?_ (by first | omega | (simp; done) | (simp; omega) | (simp at *; omega)) _) | (with_reducible exact Below.refl _ _) | (with_reducible assumption) | (with_reducible refine Below.trans ?_ (Below.mono (by assumption) (by first | omega | (simp; done) | (simp; omega) | (simp at *; omega)))))))) (fun a' ha' => by
        cases ha'
        refine HGR.out.block a.block (by simp; omega) (fun hh => ?_)
        cases hG : G with
        | none => rw [hG] at hh; simp [Value.ownBlock] at hh
        | some g => rw [hG] at hh; simp [Value.ownBlock] at hh; exact hne g hG hh) HGR.out.size
      have hall : ∀ (A : Option Addr) (L : List Int), SlRows intV 1 x1 A L → (∀ a, A = some a → L ≠ [] → a.block < x1.heap.size ∧ ∀ g, G = some g → a.block ≠ g.block) → SlRows intV 1 x5 A L := fun A L hs hne => by
        by_cases hL : L = []
        · exact Or.inl hL
        cases A with
        | none => exact Or.inl (slr_none hs)
        | some a => exact hpre a L hs (hne a rfl hL).1 (hne a rfl hL).2
      have hng : ∀ b : Nat, b < x1.heap.size → (∀ g, G = some g → b ≠ g.block) → b ≠ g5 := fun b hb hne h9 => by
        rcases HBK.out with h | h
        · cases hG : G with
          | none => rw [hG] at h; simp [Value.ownBlock] at h
          | some g => rw [hG] at h; simp [Value.ownBlock] at h; exact hne g hG (by omega)
        · simp [Value.ownBlock] at h; omega
      have hG1 : ∀ a, G1 = some a → R ≠ [] → a.block < x1.heap.size := fun a ha hne => by
        rcases slr_lt HS1.out with h | h
        · exact absurd h hne
        · exact h a ha
      have hgo : ∀ g, G = some g → g.block < wr.heap.size := fun g hg => by
        rcases HO.out.2 with ⟨h9, _⟩ | ⟨g9, _, _, hv9, _, hh9, _⟩
        · rw [hg] at h9; cases h9
        · rw [hg] at hv9; cases hv9; exact (Array.getElem?_eq_some_iff.1 hh9).1
      have hz5 : x1.heap.size ≤ x5.heap.size := by have := HGR.out.size; simp at this; omega
      have HC5 : Hid (CpL M (some ⟨g5, 0, none⟩) (k + 1) (vals ++ [.slice G1 R.length c1]) w.heap.size x5) := Lib.hid (by
        refine ⟨by rw [List.length_append, HC.out.len]; rfl, fun j hj => ?_⟩
        by_cases e : j = k
        · subst e
          have hq : ∀ a, G1 = some a → R ≠ [] → a.block < x1.heap.size ∧ ∀ g, G = some g → a.block ≠ g.block := fun a ha hne => ⟨hG1 a ha hne, fun g hg => by have := HGE.out a ha; have := hgo g hg; omega⟩
          refine ⟨G1, c1, ?_, ?_, fun h => (HN1.out h).2, fun a ha hne => ⟨?_, fun g hg => ?_, by have := HGE.out a ha; omega⟩⟩
          · rw [List.getElem?_append_right (by rw [HC.out.len]; exact Nat.le_refl _), HC.out.len, Nat.sub_self, hR.out]; rfl
          · rw [hR.out]; exact hall G1 R HS1.out hq
          · have := (hq a ha (by rw [← hR.out]; exact hne)).1; omega
          · cases hg; exact hng _ (hq a ha (by rw [← hR.out]; exact hne)).1 (hq a ha (by rw [← hR.out]; exact hne)).2
        · obtain ⟨A, cp, r1, r2, r3, r4⟩ := HC.out.row j (by omega)
          have hq : ∀ a, A = some a → M.getD j [] ≠ [] → a.block < x1.heap.size ∧ ∀ g, G = some g → a.block ≠ g.block := fun a ha hne => ⟨by have := (r4 a ha hne).1; omega, (r4 a ha hne).2.1⟩
          refine ⟨A, cp, ?_, hall A _ (r2.below HB1.out) hq, r3, fun a ha hne => ⟨?_, fun g hg => ?_, (r4 a ha hne).2.2⟩⟩
          · rw [List.getElem?_append_left (by rw [HC.out.len]; omega)]; exact r1
          · have := (hq a ha hne).1; omega
          · cases hg; exact hng _ (hq a ha hne).1 (hq a ha hne).2)
      clear hpre hall hng hG1 hgo
      go_wp2
      go_roundw
      case rel => exact ⟨k + 1, some ⟨g5, 0, none⟩, cap5, _, by first | rfl | go_num, by omega, rfl, Lib.hid HOW.out, HC5, hB5⟩
      case measure => (simp [intOf]) <;> omega
    · have hkk : k = m := by omega
      subst hkk
      go_wp2
      go_ret
      exact ⟨G, cg, vals, rfl, HO.out, HC.out, hB⟩
end Go.Proofs.YtojaompfffpofaaGreat
