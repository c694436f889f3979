import Derived.Test.YtojaompfffpofaaGreatZOSLawW1
import Derived.Test.YtojaompfffpofaaGreatZOSLawW2
import Derived.Test.YtojaompfffpofaaGreatZOSLawW3
import Derived.Test.YtojaompfffpofaaGreatZOSLawW4
import Derived.Test.YtojaompfffpofaaGreatZOSLawW5
import Derived.Test.YtojaompfffpofaaGreatZORows2
import Derived.ProofKit
import Derived.OpenShut
import Derived.Lib.SmallJoins
import Derived.Deep.Slices
import Derived.Deep.Strs
import Derived.Carry
namespace Go.Proofs.YtojaompfffpofaaGreat
open Go.ChangeShapes Go.WideShapes Go.ChangeAt Go.RowKit
set_option linter.unusedVariables false
set_option linter.unusedSimpArgs false
theorem siteWinds_any (L : List Wi) (A : Option Addr) (cap : Nat) (s0 s1 s2 s3 s4 s5 s6 s7 m a b : Int) (w : World) (hl : L.length ≤ 9223372036854775807) (CA0 : A = none → cap = 0) (HL : SlRows wiV 3 w A L) :
    Calls Tryz.prog 6 #[.slice A L.length cap, .agg #[.int .i64 s0, .int .i64 s1, .int .i64 s2, .int .i64 s3, .int .i64 s4, .int .i64 s5, .int .i64 s6, .int .i64 s7, .int .i64 m, .int .i64 a, .int .i64 b]] w fun e w' => e = .returned (.bool true) ∧ Below w.heap.size w w' := by
  have CA : A = none → L.length = 0 ∧ cap = 0 := fun h => ⟨by rcases HL with h1 | ⟨b, off, h1, _⟩ <;> simp_all, CA0 h⟩
  obtain ⟨n, hn⟩ : ∃ n, Hid (n = L.length) := ⟨_, Lib.hid rfl⟩
  have HR : Hid (∀ w' : World, Below w.heap.size w w' → SlRows wiV 3 w' A L) := Lib.hid fun w' hB => HL.below hB
  rw [← hn.out] at CA hl ⊢
  have CA' := Lib.hid CA
  have hM : Hid ([s0, s1, s2, s3, s4, s5, s6, s7] = [s0, s1, s2, s3, s4, s5, s6, s7]) := Lib.hid rfl
  by_cases h62 : 62 < n
  · exact wnd_few2 s0 s1 s2 s3 s4 s5 s6 s7 m a b A n cap w hl h62
  obtain ⟨P, hP⟩ : ∃ P, Hid (spnE a b = P) := ⟨_, Lib.hid rfl⟩
  obtain ⟨G, hG⟩ : ∃ G, Hid (rngE m 0 1000000 = G) := ⟨_, Lib.hid rfl⟩
  obtain ⟨D, hD⟩ : ∃ D, Hid (wndE L = D) := ⟨_, Lib.hid rfl⟩
  obtain ⟨S, hS⟩ : ∃ S, Hid (shE [s0, s1, s2, s3, s4, s5, s6, s7] = S) := ⟨_, Lib.hid rfl⟩
  by_cases h60 : 60 < n
  · cases hBr : (P != 0 || decide (b - a < 200)) with
    | false => exact wnd_brh s0 s1 s2 s3 s4 s5 s6 s7 m a b A n cap w (by omega) h60 P hP (Lib.hid hBr)
    | true =>
      have hzD : (D != 0) = true := by
        rw [← hD.out]; unfold wndE; rw [← hn.out, if_neg (by omega), if_neg (by omega)]; rfl
      rcases ez2 S with ⟨hz0, hzb⟩ | ⟨hz0, hzb⟩
      · have hS0 : Hid (shE [s0, s1, s2, s3, s4, s5, s6, s7] = 0) := Lib.hid (by rw [hS.out, hz0.out])
        exact wnd_2h s0 s1 s2 s3 s4 s5 s6 s7 m a b _ L A n cap w hM hn HR CA' (by omega) h60 D hD hzD hS0 P hP (Lib.hid hBr) G hG
      · exact wnd_1h s0 s1 s2 s3 s4 s5 s6 s7 m a b _ L A n cap w hM hn HR CA' (by omega) h60 D hD hzD S hS hzb P hP (Lib.hid hBr) G hG
  by_cases h12 : 12 < n
  · exact wnd_few1 s0 s1 s2 s3 s4 s5 s6 s7 m a b A n cap w hl h12 (by omega)
  have l12 : n ≤ 12 := by omega
  cases hBr : (P != 0 || decide (b - a < 200)) with
  | false => exact wnd_brl s0 s1 s2 s3 s4 s5 s6 s7 m a b A n cap w l12 P hP (Lib.hid hBr)
  | true =>
    rcases ez2 D with ⟨dz0, dzb⟩ | ⟨dz0, dzb⟩
    · have hD0 : Hid (wndE L = 0) := Lib.hid (by rw [hD.out, dz0.out])
      obtain ⟨⟨xf, xs, xo⟩, hx⟩ : ∃ x, Hid (atW L m n = x) := ⟨_, Lib.hid rfl⟩
      rcases ez2 S with ⟨hz0, hzb⟩ | ⟨hz0, hzb⟩
      · have hS0 : Hid (shE [s0, s1, s2, s3, s4, s5, s6, s7] = 0) := Lib.hid (by rw [hS.out, hz0.out])
        rcases ez2 P with ⟨pz0, pzb⟩ | ⟨pz0, pzb⟩
        · have hP0 : Hid (spnE a b = 0) := Lib.hid (by rw [hP.out, pz0.out])
          rw [pz0.out] at hBr
          cases hm : inB m 0 1000000 with
          | false => exact wnd_5 s0 s1 s2 s3 s4 s5 s6 s7 m a b _ L A n cap w hM hn HR CA' l12 hD0 hS0 hP0 (Lib.hid hBr) (Lib.hid hm)
          | true =>
            by_cases ht : begU L m n = 0
            · exact wnd_8 s0 s1 s2 s3 s4 s5 s6 s7 m a b _ L A n cap w hM hn HR CA' l12 hD0 hS0 hP0 (Lib.hid hBr) (Lib.hid hm) ht
            · exact wnd_B s0 s1 s2 s3 s4 s5 s6 s7 m a b _ L A n cap w hM hn HR CA' l12 hD0 hS0 hP0 (Lib.hid hBr) (Lib.hid hm) xf xs xo hx ht
        · cases hm : inB m 0 1000000 with
          | false => exact wnd_4 s0 s1 s2 s3 s4 s5 s6 s7 m a b _ L A n cap w hM hn HR CA' l12 hD0 hS0 P hP pzb (Lib.hid hBr) (Lib.hid hm)
          | true =>
            by_cases ht : begU L m n = 0
            · exact wnd_7 s0 s1 s2 s3 s4 s5 s6 s7 m a b _ L A n cap w hM hn HR CA' l12 hD0 hS0 P hP pzb (Lib.hid hBr) (Lib.hid hm) ht
            · exact wnd_A s0 s1 s2 s3 s4 s5 s6 s7 m a b _ L A n cap w hM hn HR CA' l12 hD0 hS0 P hP pzb (Lib.hid hBr) (Lib.hid hm) xf xs xo hx ht
      · cases hm : inB m 0 1000000 with
        | false => exact wnd_3 s0 s1 s2 s3 s4 s5 s6 s7 m a b _ L A n cap w hM hn HR CA' l12 hD0 S hS hzb P hP (Lib.hid hBr) (Lib.hid hm)
        | true =>
          by_cases ht : begU L m n = 0
          · exact wnd_6 s0 s1 s2 s3 s4 s5 s6 s7 m a b _ L A n cap w hM hn HR CA' l12 hD0 S hS hzb P hP (Lib.hid hBr) (Lib.hid hm) ht
          · exact wnd_9 s0 s1 s2 s3 s4 s5 s6 s7 m a b _ L A n cap w hM hn HR CA' l12 hD0 S hS hzb P hP (Lib.hid hBr) (Lib.hid hm) xf xs xo hx ht
    · rcases ez2 S with ⟨hz0, hzb⟩ | ⟨hz0, hzb⟩
      · have hS0 : Hid (shE [s0, s1, s2, s3, s4, s5, s6, s7] = 0) := Lib.hid (by rw [hS.out, hz0.out])
        exact wnd_2l s0 s1 s2 s3 s4 s5 s6 s7 m a b _ L A n cap w hM hn HR CA' l12 D hD dzb hS0 P hP (Lib.hid hBr) G hG
      · exact wnd_1l s0 s1 s2 s3 s4 s5 s6 s7 m a b _ L A n cap w hM hn HR CA' l12 D hD dzb S hS hzb P hP (Lib.hid hBr) G hG
end Go.Proofs.YtojaompfffpofaaGreat

namespace Go.Proofs.YtojaompfffpofaaGreat
open Go.ChangeShapes Go.WideShapes Go.ChangeAt Go.RowKit Go.Joins Go.Deep
set_option linter.unusedVariables false
set_option linter.unusedSimpArgs false
theorem laidOutA : laidOutB Tryz.prog = true := by kernel_rfl
section
variable {H : Type} {enc : TypeId × Value → H} {P : Program} {W : World}
/-- A slice of records, read: where it lies, and what holds of each record. -/
theorem openSl {α : Type} [Inhabited α] {S T : TypeId} {n : Nat} {f : α → List Value} {wf : α → Prop} (hS : P.underlying S = some (.slice T)) (hn : P.cellsOf T = n) (hpos : 0 < n) (hlen : ∀ g, (f g).length = n)
    (hop : ∀ {m : Nat} {cs : List Value} {x : DataW H × List MemPlace}, DataW.trod enc P W 0 (fun _ => true) true m T cs = some x → ∃ g, cs = f g ∧ wf g)
    {fuel : Nat} {cs : List Value} {x : DataW H × List MemPlace} (hf : DataW.trod enc P W 0 (fun _ => true) true fuel S cs = some x) :
    ∃ (L : List α) (A : Option Addr) (cap : Nat), cs = [.slice A L.length cap] ∧ SlRows f n W A L ∧ (∀ g ∈ L, wf g) ∧ (A = none → cap = 0) ∧ L.length ≤ cap ∧ cap ≤ maxLen := by
  rcases open_slice hS hf with ⟨hcs, hx⟩ | ⟨a, len, cap, m, nn, D, Pl, hcs, hb, hl, hm, hmm, hx, hi⟩
  · exact ⟨[], none, 0, hcs, Or.inl rfl, by simp, fun _ => rfl, by simp, by simp⟩
  · have hmc : m = cap := by simpa using hmm
    subst hmc
    have hg : ∀ i, i < m → ∃ g : α, W.cells? 0 (a.add (i * n)) n = some (f g) ∧ wf g := by
      intro i him
      obtain ⟨cs', hc, ht'⟩ := hi i him
      rw [hn] at hc
      obtain ⟨g, rfl, w0⟩ := hop ht'
      exact ⟨g, hc, w0⟩
    obtain ⟨F, hF⟩ := choose_lt hg
    have bb : ∀ j, (a.add j).block = a.block := fun j => by unfold Addr.add; split <;> rfl
    have hc1 : ∀ i, i < m → ∀ j, j < n → ∃ u, W.cell? ((a.add (i * n)).add j) = some u ∧ (f (F i))[j]? = some u := fun i him j hj => by
      obtain ⟨_, hl', hat⟩ := World.cells?_some (hF i him).1
      have h1 := hat j hj
      have h2 : j < (f (F i)).length := by rw [hlen]; exact hj
      rw [List.getElem?_eq_getElem h2] at h1 ⊢
      exact ⟨_, h1, rfl⟩
    have hlt : ∀ i, i < m → a.block < W.heap.size := by
      intro i him
      obtain ⟨u, hu, _⟩ := hc1 i him 0 hpos
      have := World.block_lt_of_cell? _ _ hu
      have e : ((a.add (i * n)).add 0).block = a.block := by
        rw [show ((a.add (i * n)).add 0).block = (a.add (i * n)).block by unfold Addr.add; simp, bb]
      rw [e] at this; exact this
    have hP : ((List.range len).map F).length = len := by simp
    refine ⟨(List.range len).map F, some a, m, by rw [hP]; exact hcs, ?_, ?_, (fun h => by cases h), by rw [hP]; exact hl, hm⟩
    · by_cases h0 : len = 0
      · exact Or.inl (by rw [h0]; rfl)
      · right
        obtain ⟨bk, off, spot⟩ := a
        have hs : spot = none := by
          obtain ⟨u, hu, _⟩ := hc1 0 (by omega) 0 hpos
          have := World.cell?_spot hu
          simpa [Addr.add] using this
        subst hs
        refine ⟨bk, off, rfl, hlt 0 (by omega), ?_⟩
        intro k hk i hin
        rw [hP] at hk
        obtain ⟨u, hu, hu2⟩ := hc1 k (by omega) i hin
        rw [addNR, addNR] at hu
        simp only [List.getElem_map, List.getElem_range]
        rw [hu, hu2]
    · intro g hgm
      obtain ⟨i, hi1, rfl⟩ := List.mem_map.1 hgm
      exact (hF i (by have := List.mem_range.1 hi1; omega)).2
theorem mapM_ok {α β : Type} {f : α → Option β} : ∀ {l : List α} {ys : List β}, l.mapM f = some ys → ∀ x ∈ l, ∃ y, f x = some y
  | [], _, _, x, hx => by simp at hx
  | a :: r, ys, h, x, hx => by
    rw [List.mapM_cons] at h
    simp only [Option.bind_eq_bind, Option.bind_eq_some_iff] at h
    obtain ⟨y, hy, zs, hz, _⟩ := h
    rcases List.mem_cons.1 hx with rfl | hx
    · exact ⟨y, hy⟩
    · exact mapM_ok hz x hx
/-- An array, read: each of its elements. -/
theorem openAr {t e : TypeId} {N ce : Nat} (ht : P.underlying t = some (.array N e)) (hce : P.cellsOf e = ce) {base : Nat} {sp : Nat → Bool} {held : Bool} {fuel : Nat} {cs : List Value} {x : DataW H × List MemPlace} (h : DataW.trod enc P W base sp held fuel t cs = some x) :
    cs.length = P.cellsOf t ∧ ∃ m, ∀ i, i < N → ∃ y, DataW.trod enc P W base sp held m e ((cs.drop (i * ce)).take ce) = some y := by
  cases fuel with
  | zero => simp [DataW.trod] at h
  | succ n =>
    unfold DataW.trod at h
    rw [ht] at h
    dsimp only at h
    split at h
    · rename_i hl
      refine ⟨by simpa using hl, n, fun i hi => ?_⟩
      rw [hce] at h
      simp only [Option.map_eq_some_iff] at h
      obtain ⟨ys, hy, _⟩ := h
      exact mapM_ok hy i (List.mem_range.2 hi)
    · cases h
end
end Go.Proofs.YtojaompfffpofaaGreat
