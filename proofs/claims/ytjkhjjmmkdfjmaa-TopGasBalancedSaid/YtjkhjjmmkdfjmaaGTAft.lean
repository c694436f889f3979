import Derived.Test.YtjkhjjmmkdfjmaaGTRmEnt
import Derived.Test.YtjkhjjmmkdfjmaaGTBeh2
import Derived.Outline
namespace Go.Proofs.Ytjkhjjmmkdfjmaa
open Go.ChangeShapes Go.WideShapes Go.ChangeAt Go.RowKit
set_option linter.unusedVariables false
set_option linter.unusedSimpArgs false
attribute [local go_sem ↓] Go.wp_at_zero Go.wp_at_succ
theorem wp_world {P : Program} {c : Code} {Q : Exit → Act → World → Prop} {a : Act} {w : World} (R : World → Prop) (h : R w) (k : ∀ X, R X → Code.wp P c Q a X) : Code.wp P c Q a w := k w h
theorem enter_sl (sb ib n ic cap c : Nat) (A : Option Addr) (r : Rm) (x : Fl) (w : World) (hl : n ≤ 1000000) (hs : StAt w sb ib n ic r) (hok : RmOk r c) (hc : c ≤ 800) (hv : SlRows veV 3 w A (r.H.map hdS)) (nsv : r.H = [] ∨ ∀ a, A = some a → sb ≠ a.block ∧ ib ≠ a.block) (ha : alnF x = 0) : Calls Try.prog 72 #[.slice A n cap, .pointer (some ⟨sb, 0, none⟩), .agg #[.int .i64 x.k, .int .i64 x.d, .string x.fr, .string x.tz, .int .i64 x.o, .int .i64 x.h, .int .i64 x.am, .bool x.pu]] w (EntPost sb ib n ic r x w) := by
  by_cases hH : r.H = []
  · obtain ⟨k, d, fr, tz, o, h', am, pu⟩ := x
    obtain ⟨H, g0, g1, g2, k0, k1, k2, dy⟩ := r
    have hH : H = [] := hH
    subst hH
    have hn : Hid (n = ([] : List Ve).length) := Lib.hid hs.hn
    have hL : Hid (SlRows veV 3 w A ([] : List Ve)) := Lib.hid (Or.inl rfl)
    have ha : alnE k d fr tz o h' am pu = 0 := ha
    obtain ⟨hk, am1, am2, hG, hz, hf, ht, hd, d0, d1⟩ := aln_ok ha
    rcases hk with rfl | rfl | rfl
    · obtain rfl := emp_of (hf rfl)
      have hP : posF ⟨[], g0, g1, g2, k0, k1, k2, dy⟩ ⟨0, d, ⟨#[]⟩, tz, o, h', am, pu⟩ = 6 := by
        unfold posF; dsimp only; rw [if_pos (Or.inr ⟨by show (-1 : Int) < 0; decide, by decide⟩)]
      refine (rent_m0 sb n cap 0 A [] d o h' am 0 ⟨#[]⟩ tz pu w hn hl hL (Lib.hid rfl) (Lib.hid rfl)).mono ?_
      rintro e w' ⟨rfl, hb⟩
      exact EntPost.bad hP (by decide) rfl hb
    · rcases hz with hz | ⟨rfl, rfl⟩
      · omega
      have hP : posF ⟨[], g0, g1, g2, k0, k1, k2, dy⟩ ⟨1, d, fr, tz, 0, 0, am, pu⟩ = 6 := by
        unfold posF; dsimp only; rw [if_pos (Or.inl ⟨by show (-1 : Int) < 0; decide, by decide⟩)]
      refine (rent_m1a sb n cap 0 A [] d 0 0 am _ fr tz pu w hn hl hL (Lib.hid rfl) (Lib.hid rfl)).mono ?_
      rintro e w' ⟨rfl, hb⟩
      exact EntPost.bad hP (by decide) rfl hb
    · rcases hz with hz | ⟨rfl, rfl⟩
      · omega
      obtain rfl := emp_of (ht rfl)
      have hP : posF ⟨[], g0, g1, g2, k0, k1, k2, dy⟩ ⟨2, d, fr, ⟨#[]⟩, 0, 0, am, pu⟩ = 6 := by
        unfold posF; dsimp only; rw [if_pos (Or.inl ⟨by show (-1 : Int) < 0; decide, by decide⟩)]
      refine (rent_m2 sb n cap 0 A [] d 0 0 am 0 fr ⟨#[]⟩ pu w hn hl hL (Lib.hid rfl) (Lib.hid rfl)).mono ?_
      rintro e w' ⟨rfl, hb⟩
      exact EntPost.bad hP (by decide) rfl hb
  · rcases hv with h | ⟨v, of, rfl, lv, hR⟩
    · exact absurd (List.map_eq_nil_iff.1 h) hH
    obtain ⟨h1, h2⟩ := nsv.resolve_left hH _ rfl
    exact enter_any sb ib v of n ic cap c r x w hl hs hok hc hR lv h1 h2 ha
theorem StAt.below {w w' : World} {sb ib n ic : Nat} {r : Rm} (h : StAt w sb ib n ic r) (hb : Below w.heap.size w w') : StAt w' sb ib n ic r := by
  have z := hb.size
  obtain ⟨s0, s1, s2, s3, s4, s5, s6, s7, sf, vf, ls, li, nsi, hn, nic, hR⟩ := h
  exact ⟨(hb.cell (p := ⟨sb, 0, none⟩) ls).trans s0, (hb.cell (p := ⟨sb, 1, none⟩) ls).trans s1, (hb.cell (p := ⟨sb, 2, none⟩) ls).trans s2, (hb.cell (p := ⟨sb, 3, none⟩) ls).trans s3, (hb.cell (p := ⟨sb, 4, none⟩) ls).trans s4, (hb.cell (p := ⟨sb, 5, none⟩) ls).trans s5, (hb.cell (p := ⟨sb, 6, none⟩) ls).trans s6, (hb.cell (p := ⟨sb, 7, none⟩) ls).trans s7, fun j => (hb.frozen (p := ⟨sb, j, none⟩) ls).trans (sf j), fun j => (hb.frozen (p := ⟨ib, j, none⟩) li).trans (vf j), by omega, by omega, nsi, hn, nic, hR.below hb li⟩
/-- Where the loop of After stands. -/
structure AfS (sb ib n : Nat) (w : World) (r : Rm) (X : World) : Prop where
  st : StAt X sb ib n n r
  z0 : X.cell? ⟨w.heap.size, 0, none⟩ = some (.slice none 0 0)
  z1 : X.cell? ⟨w.heap.size, 1, none⟩ = some (.int .i64 0)
  z2 : X.cell? ⟨w.heap.size, 2, none⟩ = some (.int .i64 0)
  z3 : X.cell? ⟨w.heap.size, 3, none⟩ = some (.int .i64 0)
  z4 : X.cell? ⟨w.heap.size, 4, none⟩ = some (.int .i64 0)
  z5 : X.cell? ⟨w.heap.size, 5, none⟩ = some (.int .i64 0)
  z6 : X.cell? ⟨w.heap.size, 6, none⟩ = some (.int .i64 0)
  z7 : X.cell? ⟨w.heap.size, 7, none⟩ = some (.int .i64 0)
  zf : ∀ j, X.frozen? ⟨w.heap.size, j, none⟩ = false
  be : Below w.heap.size w X
  gs : w.heap.size < sb
  gi : w.heap.size < ib
theorem AfS.next {sb ib n : Nat} {w : World} {r r' : Rm} {X X' : World} (h : AfS sb ib n w r X) (hs : StAt X' sb ib n n r') (hD : BelowD sb ib X.heap.size X X') : AfS sb ib n w r' X' := by
  have l := h.st.ls
  have g1 := h.gs
  have g2 := h.gi
  have zz := h.be.size
  have c : ∀ j, X'.cell? ⟨w.heap.size, j, none⟩ = X.cell? ⟨w.heap.size, j, none⟩ := fun j => hD.cell (by omega) (by omega) (by omega)
  exact ⟨hs, (c 0).trans h.z0, (c 1).trans h.z1, (c 2).trans h.z2, (c 3).trans h.z3, (c 4).trans h.z4, (c 5).trans h.z5, (c 6).trans h.z6, (c 7).trans h.z7, fun j => (hD.frozen (by omega) (by omega) (by omega)).trans (h.zf j), ⟨hD.os.trans h.be.os, hD.tape.trans h.be.tape, hD.output.trans h.be.output, Nat.le_trans h.be.size hD.size, fun i hi => (hD.block i (by omega) (by omega) (by omega)).trans (h.be.block i hi)⟩, g1, g2⟩
theorem AfS.below {sb ib n : Nat} {w : World} {r : Rm} {X X' : World} (h : AfS sb ib n w r X) (hb : Below X.heap.size X X') : AfS sb ib n w r X' := h.next (h.st.below hb) (BelowD.of hb (Nat.le_refl _))
def ctZ (n : Nat) : Array Value := (List.replicate (n * 3) (Value.int .i64 0)).toArray
theorem mkCt {n : Nat} (h : n ≤ 20) (w : World) : (Instr.makeSlice 45 (.int .i64 n) (.int .i64 n)).run Try.prog w = .ok (.slice (some ⟨w.heap.size, 0, none⟩) n n) (w.alloc (.cells (ctZ n) 49)) := by
  rcases (show n = 0 ∨ n = 1 ∨ n = 2 ∨ n = 3 ∨ n = 4 ∨ n = 5 ∨ n = 6 ∨ n = 7 ∨ n = 8 ∨ n = 9 ∨ n = 10 ∨ n = 11 ∨ n = 12 ∨ n = 13 ∨ n = 14 ∨ n = 15 ∨ n = 16 ∨ n = 17 ∨ n = 18 ∨ n = 19 ∨ n = 20 by omega) with rfl | rfl | rfl | rfl | rfl | rfl | rfl | rfl | rfl | rfl | rfl | rfl | rfl | rfl | rfl | rfl | rfl | rfl | rfl | rfl | rfl <;> kernel_rfl
/-- The store behind fills, or what there was ahead of the wrong one. -/
def AftPost (r : Rm) (N : Nat) (E : Int) (w : World) (e : Ending) (w' : World) : Prop := ∃ (A' : Option Addr) (nn ic : Nat) (a0 a1 a2 a3 a4 a5 a6 : Int), e = .returned (.tuple #[.agg #[.slice A' nn ic, .int .i64 a0, .int .i64 a1, .int .i64 a2, .int .i64 a3, .int .i64 a4, .int .i64 a5, .int .i64 a6], .int .i64 N, .int .i64 E]) ∧ Below w.heap.size w w' ∧ (E = 0 → nn = r.H.length ∧ SlRows ctC 3 w' A' r.H ∧ (∀ a, A' = some a → w.heap.size ≤ a.block) ∧ a0 = r.g0 ∧ a1 = r.g1 ∧ a2 = r.g2 ∧ a3 = r.k0 ∧ a4 = r.k1 ∧ a5 = r.k2 ∧ a6 = r.dy)
theorem rm0_map (L : List Ve) : (rm0 L).H.map hdS = L := by
  show (L.map hd0).map hdS = L
  rw [List.map_map]
  conv => rhs; rw [← List.map_id L]
  exact List.map_congr_left fun g _ => rfl
set_option maxRecDepth 100000 in
set_option maxHeartbeats 2000000 in
theorem After_big (L : List Ve) (A : Option Addr) (cap n : Nat) (fA : Option Addr) (fcap m : Nat) (r : Rm) (w : World) (hl : n ≤ 20) (hm : 200 < m) : Calls Try.prog 27 #[.slice A n cap, .slice fA m fcap] w (AftPost r 0 8 w) := by
  have hmm : (200 : Int) < (m : Int) := by omega
  have hmk := fun (w : World) => mkCt hl w
  obtain ⟨zz, hzz⟩ : ∃ zz, Hid (ctZ n = zz) := ⟨_, Lib.hid rfl⟩
  rw [hzz.out] at hmk
  go_enter Try.func27, Try.ntmps27
  go_wp2
  refine bodyPost_ret (v := .tuple #[.agg #[.slice (some ⟨w.heap.size + 1, 0, none⟩) n n, .int .i64 0, .int .i64 0, .int .i64 0, .int .i64 0, .int .i64 0, .int .i64 0, .int .i64 0], .int .i64 0, .int .i64 8]) (by simp [results, Try.results27, go_sem, cP, *]) rfl ⟨_, _, _, _, _, _, _, _, _, _, rfl, ?_, fun h => absurd h (by decide)⟩
  exact belA
set_option maxRecDepth 100000 in
set_option maxHeartbeats 8000000 in
theorem After_run (L : List Ve) (A : Option Addr) (cap n : Nat) (X : List Fl) (fA : Option Addr) (fcap m : Nat) (N : Nat) (E : Int) (w : World) (hlen : Hid (n = L.length)) (hl : n ≤ 20) (hL : Hid (SlRows veV 3 w A L)) (hm : Hid (m = X.length)) (hm2 : m ≤ 200) (hX : Hid (SlRows flV 8 w fA X)) (hok : Hid (RmOk (rm0 L) 0)) (hD : Hid (dia (rm0 L) X 0 = (N, E))) (r9 : Rm) (hr9 : Hid (runR (rm0 L) X = r9)) : Calls Try.prog 27 #[.slice A n cap, .slice fA m fcap] w (AftPost r9 N E w) := by
  have hmm : ¬ (200 : Int) < (m : Int) := by omega
  have hmk := fun (w : World) => mkCt hl w
  obtain ⟨zz, hzz⟩ : ∃ zz, Hid (ctZ n = zz) := ⟨_, Lib.hid rfl⟩
  rw [hzz.out] at hmk
  go_enter Try.func27, Try.ntmps27
  go_upto_region 2 with (fail)
  refine wp_world (AfS (w.heap.size + 1 + 1) (w.heap.size + 1) n w (rm0 L)) ⟨⟨by simp [go_sem, cP], by simp [go_sem, cP, rm0], by simp [go_sem, cP, rm0], by simp [go_sem, cP, rm0], by simp [go_sem, cP, rm0], by simp [go_sem, cP, rm0], by simp [go_sem, cP, rm0], by simp [go_sem, cP, rm0], by intro j; simp [go_sem], by intro j; simp [go_sem], by simp, by (first | (simp; done) | (simp; omega)), by omega, by show n = (L.map hd0).length; rw [List.length_map]; exact hlen.out, Nat.le_refl _, ?_⟩, by simp [go_sem, cP], by simp [go_sem, cP], by simp [go_sem, cP], by simp [go_sem, cP], by simp [go_sem, cP], by simp [go_sem, cP], by simp [go_sem, cP], by simp [go_sem, cP], by intro j; simp [go_sem], belA, by omega, by omega⟩ (fun u hu => ?_)
  · intro k hk i hi
    have hk2 : k < n := by rw [hlen.out]; simpa [rm0] using hk
    have e : (ctC (rm0 L).H[k])[i]? = some (.int .i64 0) := by
      have : (rm0 L).H[k] = hd0 (L[k]'(by rw [← hlen.out]; exact hk2)) := by simp [rm0]
      rw [this]
      rcases (show i = 0 ∨ i = 1 ∨ i = 2 by omega) with rfl | rfl | rfl <;> rfl
    rw [e, ← hzz.out]
    have hlt : k * 3 + i < n * 3 := by omega
    simp only [Nat.zero_add]
    unfold ctZ
    simp [go_sem, cP, hlt]
  have HU := Lib.hid hu
  clear hu hmk
  go_wp2
  go_loopw [8] (fun i wr => ∃ j : Nat, j ≤ m ∧ i = .int .i64 j ∧ Hid (AfS (w.heap.size + 1 + 1) (w.heap.size + 1) n w (runR (rm0 L) (X.take j)) wr) ∧ Hid (RmOk (runR (rm0 L) (X.take j)) j) ∧ Hid ((runR (rm0 L) (X.take j)).H.map hdS = L) ∧ Hid (dia (runR (rm0 L) (X.take j)) (X.drop j) j = (N, E))) (fun i _ => m - (intOf i).toNat)
  case atStart => exact ⟨0, by omega, rfl, HU, hok, Lib.hid (rm0_map L), hD⟩
  case round =>
    clear HU
    obtain ⟨j, hj, rfl, HU, hO, hV, hDj⟩ := hrel
    obtain ⟨sb, hsb⟩ : ∃ b, Hid (w.heap.size + 1 + 1 = b) := ⟨_, Lib.hid rfl⟩
    by_cases hjm : j < m
    · have hjl : j < X.length := by have := hm.out; omega
      have jn : (j : Int) < (m : Int) := by omega
      rcases hX.out with hnil | ⟨u9, off, rfl, hlt, hR⟩
      · rw [hnil] at hjl; simp at hjl
      have hBe := HU.out.be
      have sz := hBe.size
      obtain ⟨f0, f1, f2, f3, f4, f5, f6, f7⟩ := fl_at (hR.below hBe hlt) hjl
      have hd := hDj.out
      rw [dia_drop hjl] at hd
      have hrt := runR_take (r := rm0 L) hjl
      obtain ⟨x, hx⟩ : ∃ x, Hid (X[j] = x) := ⟨_, Lib.hid rfl⟩
      obtain ⟨r, hr⟩ : ∃ r, Hid (runR (rm0 L) (X.take j) = r) := ⟨_, Lib.hid rfl⟩
      rw [hx.out, hr.out] at hd hrt
      rw [hx.out] at f0 f1 f2 f3 f4 f5 f6 f7
      rw [hr.out] at HU hO hV
      have HLB : Hid (SlRows veV 3 wr A (r.H.map hdS)) := Lib.hid (by rw [hV.out]; exact hL.out.below hBe)
      have HD := Lib.hid hd
      have HRT := Lib.hid hrt
      have HRX := Lib.hid hR
      obtain ⟨Ea, hEa⟩ : ∃ z, Hid (alnE x.k x.d x.fr x.tz x.o x.h x.am x.pu = z) := ⟨_, Lib.hid rfl⟩
      have HNV : Hid (r.H = [] ∨ ∀ a, A = some a → a.block < w.heap.size) := Lib.hid (by
        rcases hL.out with h | ⟨b, o, e, hb, _⟩
        · exact Or.inl (List.map_eq_nil_iff.1 (hV.out.trans h))
        · exact Or.inr fun a ha => by rw [e] at ha; cases ha; exact hb)
      clear hd hrt hx hr hDj hR hBe
      go_wp2_with fail
      refine (alr_any x.k x.d x.o x.h x.am Ea x.fr x.tz x.pu _ hEa).mono ?_
      rintro e x1 ⟨rfl, hb1⟩
      have hc1 : Below wr.heap.size wr x1 := belA
      have HU1 := Lib.hid (HU.out.below hc1)
      have HL1 := Lib.hid (HLB.out.below hc1)
      have hz1 := hc1.size
      have hBe1 := HU1.out.be
      have sz1 := hBe1.size
      obtain ⟨f0, f1, f2, f3, f4, f5, f6, f7⟩ : x1.cell? ⟨u9, off + j * 8, none⟩ = some (.int .i64 x.k) ∧ x1.cell? ⟨u9, off + j * 8 + 1, none⟩ = some (.int .i64 x.d) ∧ x1.cell? ⟨u9, off + j * 8 + 2, none⟩ = some (.string x.fr) ∧ x1.cell? ⟨u9, off + j * 8 + 3, none⟩ = some (.string x.tz) ∧ x1.cell? ⟨u9, off + j * 8 + 4, none⟩ = some (.int .i64 x.o) ∧ x1.cell? ⟨u9, off + j * 8 + 5, none⟩ = some (.int .i64 x.h) ∧ x1.cell? ⟨u9, off + j * 8 + 6, none⟩ = some (.int .i64 x.am) ∧ x1.cell? ⟨u9, off + j * 8 + 7, none⟩ = some (.bool x.pu) := ⟨(hc1.cell (p := ⟨u9, _, none⟩) (by show u9 < _; omega)).trans f0, (hc1.cell (p := ⟨u9, _, none⟩) (by show u9 < _; omega)).trans f1, (hc1.cell (p := ⟨u9, _, none⟩) (by show u9 < _; omega)).trans f2, (hc1.cell (p := ⟨u9, _, none⟩) (by show u9 < _; omega)).trans f3, (hc1.cell (p := ⟨u9, _, none⟩) (by show u9 < _; omega)).trans f4, (hc1.cell (p := ⟨u9, _, none⟩) (by show u9 < _; omega)).trans f5, (hc1.cell (p := ⟨u9, _, none⟩) (by show u9 < _; omega)).trans f6, (hc1.cell (p := ⟨u9, _, none⟩) (by show u9 < _; omega)).trans f7⟩
      have HBE1 := Lib.hid hBe1
      clear hb1 hc1 hBe1 HU HLB
      by_cases ha0 : Ea = 0
      · subst ha0
        have HCALL := Lib.hid (enter_sl (w.heap.size + 1 + 1) (w.heap.size + 1) n n cap j A r x x1 (by omega) HU1.out.st hO.out (by omega) HL1.out (HNV.out.imp id (fun h a ha => by have := h a ha; exact ⟨by omega, by omega⟩)) hEa.out)
        have hst : stpE r x = posF r x := by unfold stpE alnF; rw [hEa.out, if_pos rfl]
        have hd := HD.out
        rw [hst] at hd
        have HSO := Lib.hid (fun h => step_ok (r := r) (x := x) (c := j) hO.out hEa.out h)
        obtain ⟨P, hP⟩ : ∃ P, Hid (posF r x = P) := ⟨_, Lib.hid rfl⟩
        rw [hP.out] at hd HSO
        have HD2 := Lib.hid hd
        clear hd hst HD
        go_wp2_with fail
        refine HCALL.out.mono ?_
        rintro e x2 ⟨rfl, hnext, hD2, hbad⟩
        rw [hP.out] at hnext hbad ⊢
        by_cases hP0 : P = 0
        · subst hP0
          have HU2 := HU1.out.next (hnext rfl) hD2
          obtain ⟨o1, o2⟩ := HSO.out rfl
          have hd := HD2.out
          rw [if_pos rfl] at hd
          rw [← HRT.out] at HU2 o1 o2 hd
          have HU3 := Lib.hid HU2
          have HO3 := Lib.hid o1
          have HV3 := Lib.hid (o2.trans hV.out)
          have HD3 := Lib.hid hd
          clear hnext hD2 hbad HU2 o1 o2 hd HSO HD2 HCALL
          go_wp2
          go_roundw
          case rel => exact ⟨j + 1, by omega, by go_num, HU3, HO3, HV3, HD3⟩
          case measure => simp [intOf]; omega
        · have HU2 := HU1.out.below (hbad hP0)
          have hd := HD2.out
          rw [if_neg hP0] at hd
          obtain ⟨rfl, rfl⟩ := Prod.mk.inj hd
          have hP1 : (P != 0) = true := by simpa using hP0
          obtain ⟨⟨s0, s1, s2, s3, s4, s5, s6, s7, sf, vf, ls, li, nsi, hn, nic, hRR⟩, z0, z1, z2, z3, z4, z5, z6, z7, zf, hBe, gs, gi⟩ := HU2
          have HBE2 := Lib.hid hBe
          clear hnext hD2 hbad hd HSO HD2 HCALL hRR hBe f0 f1 f2 f3 f4 f5 f6 f7
          go_wp2
          refine bodyPost_ret (v := .tuple #[.agg #[.slice (some ⟨w.heap.size + 1, 0, none⟩) n n, .int .i64 r.g0, .int .i64 r.g1, .int .i64 r.g2, .int .i64 r.k0, .int .i64 r.k1, .int .i64 r.k2, .int .i64 r.dy], .int .i64 j, .int .i64 P]) (by simp [results, Try.results27, go_sem, cP, *]) rfl ⟨_, _, _, _, _, _, _, _, _, _, rfl, ?_, fun h => absurd h hP0⟩
          exact HBE2.out.trans (show Below w.heap.size x2 _ from belA)
      · have hst : stpE r x = Ea := by unfold stpE alnF; rw [hEa.out, if_neg ha0]
        have hd := HD.out
        rw [hst, if_neg ha0] at hd
        obtain ⟨rfl, rfl⟩ := Prod.mk.inj hd
        have hP1 : (Ea != 0) = true := by simpa using ha0
        have hP2 : (Ea == 0) = false := by simpa using ha0
        obtain ⟨⟨s0, s1, s2, s3, s4, s5, s6, s7, sf, vf, ls, li, nsi, hn, nic, hRR⟩, z0, z1, z2, z3, z4, z5, z6, z7, zf, hBe, gs, gi⟩ := HU1.out
        have HBE2 := Lib.hid hBe
        clear hd hst HD hRR hBe f0 f1 f2 f3 f4 f5 f6 f7
        go_wp2
        refine bodyPost_ret (v := .tuple #[.agg #[.slice (some ⟨w.heap.size + 1, 0, none⟩) n n, .int .i64 r.g0, .int .i64 r.g1, .int .i64 r.g2, .int .i64 r.k0, .int .i64 r.k1, .int .i64 r.k2, .int .i64 r.dy], .int .i64 j, .int .i64 Ea]) (by simp [results, Try.results27, go_sem, cP, *]) rfl ⟨_, _, _, _, _, _, _, _, _, _, rfl, ?_, fun h => absurd h ha0⟩
        exact HBE2.out.trans (show Below w.heap.size x1 _ from belA)
    · have hjj : j = m := by omega
      have jn : ¬ (j : Int) < (m : Int) := by omega
      have hd := hDj.out
      rw [List.drop_eq_nil_of_le (by have := hm.out; omega)] at hd
      obtain ⟨rfl, rfl⟩ := Prod.mk.inj hd
      rw [List.take_of_length_le (by have := hm.out; omega), hr9.out] at HU
      obtain ⟨⟨s0, s1, s2, s3, s4, s5, s6, s7, sf, vf, ls, li, nsi, hn, nic, hRR⟩, z0, z1, z2, z3, z4, z5, z6, z7, zf, hBe, gs, gi⟩ := HU.out
      have HRR := Lib.hid hRR
      have HBE2 := Lib.hid hBe
      clear hd hRR hBe hDj hO hV hjj HU
      go_wp2
      refine bodyPost_ret (v := .tuple #[.agg #[.slice (some ⟨w.heap.size + 1, 0, none⟩) n n, .int .i64 r9.g0, .int .i64 r9.g1, .int .i64 r9.g2, .int .i64 r9.k0, .int .i64 r9.k1, .int .i64 r9.k2, .int .i64 r9.dy], .int .i64 0, .int .i64 0]) (by simp [results, Try.results27, go_sem, cP, *]) rfl ⟨_, _, _, _, _, _, _, _, _, _, rfl, ?_, fun _ => ⟨hn, ?_, fun a ha => ?_, rfl, rfl, rfl, rfl, rfl, rfl, rfl⟩⟩
      · exact HBE2.out.trans (show Below w.heap.size wr _ from belA)
      · refine Or.inr ⟨_, _, rfl, by simpa using li, fun kk hkk ii hii => ?_⟩
        rw [← HRR.out kk hkk ii hii]
        simp [go_sem, *]
      · cases ha; show w.heap.size ≤ w.heap.size + 1; omega
theorem After_any (L : List Ve) (A : Option Addr) (cap n : Nat) (X : List Fl) (fA : Option Addr) (fcap m : Nat) (N : Nat) (E : Int) (w : World) (hlen : Hid (n = L.length)) (hL : Hid (SlRows veV 3 w A L)) (hm : Hid (m = X.length)) (hX : Hid (SlRows flV 8 w fA X)) (hC : Hid (ctV L = 0)) (hD : Hid (behP L X = (N, E))) (r9 : Rm) (hr9 : Hid (runR (rm0 L) X = r9)) : Calls Try.prog 27 #[.slice A n cap, .slice fA m fcap] w (AftPost r9 N E w) := by
  have hd := hD.out
  unfold behP at hd
  rw [if_pos hC.out] at hd
  have hn : n ≤ 20 := by
    have := hlen.out
    have h2 := hC.out
    unfold ctV at h2
    by_cases h3 : 20 < L.length
    · rw [if_pos h3] at h2; exact absurd h2 (by decide)
    · omega
  by_cases h2 : 200 < X.length
  · rw [if_pos h2] at hd
    obtain ⟨rfl, rfl⟩ := Prod.mk.inj hd
    exact After_big L A cap n fA fcap m r9 w hn (by have := hm.out; omega)
  · rw [if_neg h2] at hd
    exact After_run L A cap n X fA fcap m N E w hlen hn hL hm (by have := hm.out; omega) hX (Lib.hid (rm0_ok hC.out)) (Lib.hid hd) r9 hr9
theorem refVes_any (L : List Ve) (A : Option Addr) (cap n : Nat) (E : Int) (w : World) (hlen : Hid (n = L.length)) (hcap : n ≤ cap) (hcm : (cap : Int) ≤ 9223372036854775807) (hsz : Hid (∀ g ∈ L, g.nm.size ≤ 1000000)) (hL : Hid (SlRows veV 3 w A L)) (hE : Hid (ctV L = E)) :
    Calls Try.prog 19 #[.slice A n cap] w fun e w' => e = .returned (.int .i64 E) ∧ Below w.heap.size w w' := by
  have he := hE.out
  unfold ctV at he
  rw [← hlen.out] at he
  by_cases h1 : 20 < n
  · have hr : Hid (E = 8) := Lib.hid (by rw [if_pos h1] at he; exact he.symm)
    have i1 : (20 : Int) < (n : Int) := by omega
    clear he hE
    go_enter Try.func19, Try.ntmps19
    go_wp2
    go_ret
    exact ⟨ret_int hr.out.symm, belA⟩
  · rw [if_neg h1] at he
    rcases hL.out with h | ⟨b, off, rfl, hlt, hR⟩
    · have hn0 : n = 0 := by rw [hlen.out, h]; rfl
      have hr : Hid (E = 0) := Lib.hid (by rw [h] at he; exact he.symm)
      subst hn0
      clear he hE
      go_enter Try.func19, Try.ntmps19
      go_wp2
      refine wp_loop_rounds 1 ?_
      rw [rounds_succ]
      go_wp2
      go_ret
      exact ⟨ret_int hr.out.symm, belA⟩
    · exact refCheckVessels_some L b off cap n E w hlen (by omega) hcap hcm hsz hlt hR (Lib.hid he)
set_option maxRecDepth 100000 in
theorem refFills_any (L : List Ve) (A : Option Addr) (cap n : Nat) (X : List Fl) (fA : Option Addr) (fcap m : Nat) (N : Nat) (E : Int) (w : World) (hlen : Hid (n = L.length)) (hcap : n ≤ cap) (hcm : (cap : Int) ≤ 9223372036854775807) (hsz : Hid (∀ g ∈ L, g.nm.size ≤ 1000000)) (hL : Hid (SlRows veV 3 w A L)) (hm : Hid (m = X.length)) (hX : Hid (SlRows flV 8 w fA X)) (hD : Hid (behP L X = (N, E))) :
    Calls Try.prog 17 #[.slice A n cap, .slice fA m fcap] w fun e w' => e = .returned (.tuple #[.int .i64 N, .int .i64 E]) ∧ Below w.heap.size w w' := by
  obtain ⟨C, hC⟩ : ∃ C, Hid (ctV L = C) := ⟨_, Lib.hid rfl⟩
  by_cases hC0 : C = 0
  · subst hC0
    go_enter Try.func17, Try.ntmps17
    go_wp2_with fail
    refine (refVes_any L A cap n 0 _ hlen hcap hcm hsz hL hC).mono ?_
    rintro e x1 ⟨rfl, hb1⟩
    have HL1 := Lib.hid (hL.out.below hb1)
    have HX1 := Lib.hid (hX.out.below hb1)
    have HB1 := Lib.hid hb1
    have z1 := hb1.size
    clear hb1
    go_wp2_with fail
    refine (After_any L A cap n X fA fcap m N E _ hlen HL1 hm HX1 hC hD _ (Lib.hid rfl)).mono ?_
    rintro e x2 ⟨A', nn, ic, a0, a1, a2, a3, a4, a5, a6, rfl, hb2, _⟩
    have hB2 : Below w.heap.size w x2 := HB1.out.trans (hb2.mono z1)
    clear hb2
    go_wp2
    go_ret2
    exact ⟨rfl, hB2.trans ((show Below x2.heap.size x2 _ from (Below.refl _ _).alloc (Nat.le_refl _) _).mono hB2.size)⟩
  · have hd := hD.out
    unfold behP at hd
    rw [hC.out, if_neg hC0] at hd
    obtain ⟨rfl, rfl⟩ := Prod.mk.inj hd
    have hC1 : (C != 0) = true := by simpa using hC0
    clear hd
    go_enter Try.func17, Try.ntmps17
    go_wp2_with fail
    refine (refVes_any L A cap n C _ hlen hcap hcm hsz hL hC).mono ?_
    rintro e x1 ⟨rfl, hb1⟩
    go_wp2
    go_ret2
    exact ⟨rfl, hb1⟩
end Go.Proofs.Ytjkhjjmmkdfjmaa
