import Derived.Test.YtjkhjjmmkdfjmaaGTClone6
import Derived.Outline
namespace Go.Proofs.Ytjkhjjmmkdfjmaa
open Go.ChangeShapes Go.WideShapes Go.ChangeAt Go.RowKit
set_option linter.unusedVariables false
set_option linter.unusedSimpArgs false
/-- The share of all that is there is all that is there. -/
theorem shareR_all {a b c : Int} (a0 : 0 ≤ a) (b0 : 0 ≤ b) (c0 : 0 ≤ c) : shareR a b c (a + b + c) = (a, b, c) := by
  unfold shareR
  by_cases h : a + b + c = 0
  · rw [if_pos h, show a = 0 by omega, show b = 0 by omega, show c = 0 by omega]
  · rw [if_neg h, Int.mul_ediv_cancel a h, Int.mul_ediv_cancel b h, Int.mul_ediv_cancel c h]
    rw [show (a + b + c - a - b - c).toNat = 0 by omega]
    rfl
/-- The fill that vents a vessel whole. -/
def vent (d : Int) (g : Hd) : Fl := ⟨2, d, g.nm, ⟨#[]⟩, 0, 0, hdSum g, false⟩
theorem vent_step {r : Rm} {c q : Nat} {d : Int} (hok : RmOk r c) (hq : q < r.H.length) (hf : fndV r.H[q].nm (r.H.map hdS) = q) (hs : 0 < hdSum r.H[q]) (hd : r.dy = d) (d0 : 0 ≤ d) (d1 : d ≤ 100000) :
    stpE r (vent d r.H[q]) = 0 ∧ stpR r (vent d r.H[q]) = ⟨r.H.set q (putC r.H[q] 0 0 0), r.g0, r.g1, r.g2, r.k0 + r.H[q].a, r.k1 + r.H[q].b, r.k2 + r.H[q].c, d⟩ := by
  obtain ⟨hn, hc, _⟩ := hok.hd _ (List.getElem_mem hq)
  obtain ⟨ca, cb, cc, cs⟩ := conB_iff.1 hc
  have hS : hdSum r.H[q] ≤ 1000000000 := by unfold hdSum; omega
  have hfr : frI r (vent d r.H[q]) = q := hf
  have ha : alnF (vent d r.H[q]) = 0 := by
    show alnE 2 d r.H[q].nm ⟨#[]⟩ 0 0 (hdSum r.H[q]) false = 0
    have hg : gasE 0 0 = 0 := by decide
    unfold alnE
    rw [if_pos (Or.inr (Or.inr rfl)), if_pos ⟨inB_true d0 d1, inB_true (by omega) hS⟩, if_pos ⟨hg, Or.inr ⟨rfl, rfl⟩⟩, if_neg]
    rintro (⟨h, _⟩ | ⟨_, h⟩ | ⟨h, _⟩ | ⟨h, _⟩)
    · exact absurd h (by decide)
    · exact h rfl
    · exact absurd h (by decide)
    · exact absurd h (by decide)
  have hp : posF r (vent d r.H[q]) = 0 := by
    unfold posF
    rw [hfr, if_neg (by simp [vent]), if_neg (by simp [vent]), if_pos (by simp [vent]), hdAt_q hq]
    unfold pos2
    rw [if_neg (by simp [vent, hd]), if_neg (by simp [vent])]
  refine ⟨?_, ?_⟩
  · unfold stpE; rw [if_pos ha, hp]
  · unfold stpR
    rw [if_neg (by simp [vent]), if_pos (by simp [vent]), hfr, hdAt_q hq]
    unfold outR
    have he : shareR r.H[q].a r.H[q].b r.H[q].c (vent d r.H[q]).am = (r.H[q].a, r.H[q].b, r.H[q].c) := shareR_all ca cb cc
    rw [he]
    simp [vent]
theorem runR_app : ∀ (X Y : List Fl) (r : Rm), runR r (X ++ Y) = runR (runR r X) Y
  | [], _, _ => rfl
  | x :: l, Y, r => runR_app l Y (stpR r x)
theorem dia_app {Y : List Fl} : ∀ (X : List Fl) (r : Rm) (i : Nat), (dia r X i).2 = 0 → dia r (X ++ Y) i = dia (runR r X) Y (i + X.length)
  | [], r, i, _ => rfl
  | y :: l, r, i, h => by
    by_cases hz : stpE r y = 0
    · have h' : (dia (stpR r y) l (i + 1)).2 = 0 := by simpa [dia, hz] using h
      have h2 := dia_app (Y := Y) l (stpR r y) (i + 1) h'
      show (if stpE r y = 0 then dia (stpR r y) (l ++ Y) (i + 1) else _) = _
      rw [if_pos hz, h2, show i + 1 + l.length = i + (y :: l).length by simp; omega]
      rfl
    · exact absurd (by simp [dia, hz] at h) hz
/-- A vessel that is vented, if there is something in it. -/
def zer (g : Hd) : Hd := putC g 0 0 0
def vts (d : Int) (H : List Hd) : List Fl := (H.filter (fun g => decide (0 < hdSum g))).map (vent d)
theorem vts_snoc {d : Int} {H : List Hd} {i : Nat} (hi : i < H.length) : vts d (H.take (i + 1)) = vts d (H.take i) ++ (if 0 < hdSum H[i] then [vent d H[i]] else []) := by
  unfold vts
  rw [List.take_succ_eq_append_getElem hi, List.filter_append, List.map_append]
  by_cases h : 0 < hdSum H[i]
  · simp [h]
  · simp [h]
theorem zer_same {g : Hd} (hc : conB g.a g.b g.c = true) (h : ¬ 0 < hdSum g) : zer g = g := by
  obtain ⟨ca, cb, cc, _⟩ := conB_iff.1 hc
  unfold hdSum at h
  unfold zer putC
  obtain ⟨nm, v, m, a, b, c⟩ := g
  simp only at *
  rw [show a = 0 by omega, show b = 0 by omega, show c = 0 by omega]
/-- The room behind the vents of the first i vessels. -/
def vtR (r : Rm) (d : Int) (i : Nat) : Rm := ⟨(r.H.take i).map zer ++ r.H.drop i, r.g0, r.g1, r.g2, r.k0 + sm Hd.a (r.H.take i), r.k1 + sm Hd.b (r.H.take i), r.k2 + sm Hd.c (r.H.take i), d⟩
theorem vtR_map (r : Rm) (d : Int) (i : Nat) : (vtR r d i).H.map hdS = r.H.map hdS := by
  show ((r.H.take i).map zer ++ r.H.drop i).map hdS = _
  rw [List.map_append, List.map_map]
  conv => rhs; rw [← List.take_append_drop i r.H, List.map_append]
  rfl
theorem vtR_len (r : Rm) (d : Int) (i : Nat) : (vtR r d i).H.length = r.H.length := by
  have h := congrArg List.length (vtR_map r d i)
  simpa using h
theorem vtR_at {r : Rm} {d : Int} {i : Nat} (hi : i < r.H.length) : (vtR r d i).H[i]'(by rw [vtR_len]; exact hi) = r.H[i] := by
  show ((r.H.take i).map zer ++ r.H.drop i)[i]'_ = _
  have hm : min i r.H.length = i := by omega
  simp [List.getElem_append, hm]
theorem vtR_step {r : Rm} {d : Int} {c i : Nat} (hu : ∀ q, (hq : q < r.H.length) → fndV r.H[q].nm (r.H.map hdS) = q) (hok : RmOk (vtR r d i) c) (hi : i < r.H.length) (d0 : 0 ≤ d) (d1 : d ≤ 100000) (hs : 0 < hdSum r.H[i]) :
    stpE (vtR r d i) (vent d r.H[i]) = 0 ∧ stpR (vtR r d i) (vent d r.H[i]) = vtR r d (i + 1) := by
  have hl : i < (vtR r d i).H.length := by rw [vtR_len]; exact hi
  have hat := vtR_at (d := d) hi
  have h := vent_step (d := d) hok hl (by rw [hat, vtR_map]; exact hu i hi) (by rw [hat]; exact hs) rfl d0 d1
  rw [hat] at h
  refine ⟨h.1, h.2.trans ?_⟩
  have e1 : (vtR r d i).H.set i (putC r.H[i] 0 0 0) = (vtR r d (i + 1)).H := by
    show ((r.H.take i).map zer ++ r.H.drop i).set i (putC r.H[i] 0 0 0) = (r.H.take (i + 1)).map zer ++ r.H.drop (i + 1)
    have hm : ((r.H.take i).map zer).length = i := by simp; omega
    rw [List.set_append, if_neg (by omega), hm, Nat.sub_self, List.drop_eq_getElem_cons hi, List.set_cons_zero, List.take_succ_eq_append_getElem hi, List.map_append, List.append_assoc]
    rfl
  rw [e1]
  show (⟨_, _, _, _, _, _, _, _⟩ : Rm) = ⟨_, _, _, _, _, _, _, _⟩
  simp only [vtR, sm_take Hd.a hi, sm_take Hd.b hi, sm_take Hd.c hi, Int.add_assoc]
theorem vtR_skip {r : Rm} {d : Int} {i : Nat} (hc : conB (r.H.getD i default).a (r.H.getD i default).b (r.H.getD i default).c = true) (hi : i < r.H.length) (hs : ¬ 0 < hdSum r.H[i]) : vtR r d (i + 1) = vtR r d i := by
  rw [List.getD_eq_getElem?_getD, List.getElem?_eq_getElem hi] at hc
  simp only [Option.getD_some] at hc
  have hz := zer_same hc hs
  obtain ⟨ca, cb, cc, _⟩ := conB_iff.1 hc
  unfold hdSum at hs
  have e1 : (r.H.take (i + 1)).map zer ++ r.H.drop (i + 1) = (r.H.take i).map zer ++ r.H.drop i := by
    rw [List.take_succ_eq_append_getElem hi, List.map_append, List.append_assoc, List.drop_eq_getElem_cons hi]
    simp [hz]
  unfold vtR
  rw [e1, sm_take Hd.a hi, sm_take Hd.b hi, sm_take Hd.c hi, show r.H[i].a = 0 by omega, show r.H[i].b = 0 by omega, show r.H[i].c = 0 by omega]
  simp
theorem ves_uniq : ∀ (L : List Ve) (K : List ByteArray), vesE K L = 0 → (∀ g ∈ L, ¬ g.nm ∈ K) ∧ ∀ j k, (hj : j < k) → (hk : k < L.length) → (L[j]'(by omega)).nm ≠ L[k].nm
  | [], _, _ => ⟨fun g h => (by cases h), fun j k _ hk => absurd hk (by simp)⟩
  | g :: l, K, h => by
    unfold vesE at h
    by_cases h1 : nameB g.nm = true
    · rw [if_pos h1] at h
      by_cases h2 : inN g.nm K = true
      · rw [if_pos h2] at h; exact absurd h (by decide)
      · rw [if_neg h2] at h
        by_cases h3 : veE g = 0
        · rw [if_pos h3] at h
          obtain ⟨i1, i2⟩ := ves_uniq l (K ++ [g.nm]) h
          have hg : ¬ g.nm ∈ K := fun hm => h2 (inN_iff.2 hm)
          refine ⟨fun x hx hm => ?_, fun j k hj hk => ?_⟩
          · rcases List.mem_cons.1 hx with rfl | hx
            · exact hg hm
            · exact i1 x hx (List.mem_append_left _ hm)
          · obtain ⟨k, rfl⟩ : ∃ m, k = m + 1 := ⟨k - 1, by omega⟩
            cases j with
            | zero =>
              intro he
              have hk' : k < l.length := by simpa using hk
              have he' : g.nm = l[k].nm := he
              exact i1 l[k] (List.getElem_mem hk') (by rw [← he']; simp)
            | succ j =>
              have hk' : k < l.length := by simpa using hk
              exact i2 j k (by omega) hk'
        · rw [if_neg h3] at h; exact absurd h h3
    · rw [if_neg h1] at h; exact absurd h (by decide)
theorem ct_uniq {L : List Ve} (h : ctV L = 0) : ∀ q, (hq : q < L.length) → fndV L[q].nm L = q := by
  intro q hq
  unfold ctV at h
  by_cases h1 : 20 < L.length
  · rw [if_pos h1] at h; exact absurd h (by decide)
  · rw [if_neg h1] at h
    exact fndV_at hq rfl fun j hj => (ves_uniq L [] h).2 j q hj hq
theorem RmOk.mono {r : Rm} {c c' : Nat} (h : RmOk r c) (hc : c ≤ c') : RmOk r c' := by
  obtain ⟨a, b0, b1, b2, b3, b4, b5⟩ := h
  have : (c : Int) ≤ (c' : Int) := by omega
  exact ⟨a, by omega, by omega, by omega, by omega, by omega, by omega⟩
theorem vtR_zero (r : Rm) : vtR r r.dy 0 = r := by
  obtain ⟨H, g0, g1, g2, k0, k1, k2, dy⟩ := r
  simp [vtR, sm]
/-- All vents, one behind the other: none is wrong, and the room behind them is vtR. -/
theorem vts_run {r : Rm} {c : Nat} (hu : ∀ q, (hq : q < r.H.length) → fndV r.H[q].nm (r.H.map hdS) = q) (hok : RmOk r c) (d0 : 0 ≤ r.dy) (d1 : r.dy ≤ 100000) : ∀ i, i ≤ r.H.length →
    runR r (vts r.dy (r.H.take i)) = vtR r r.dy i ∧ (∀ j, (dia r (vts r.dy (r.H.take i)) j).2 = 0) ∧ RmOk (vtR r r.dy i) (c + i) ∧ (vts r.dy (r.H.take i)).length ≤ i
  | 0, _ => ⟨by rw [vtR_zero]; rfl, fun _ => rfl, by rw [vtR_zero]; exact hok, Nat.le_refl _⟩
  | i + 1, hi => by
    obtain ⟨h1, h2, h3, h4⟩ := vts_run hu hok d0 d1 i (by omega)
    have hi' : i < r.H.length := by omega
    have hc : conB r.H[i].a r.H[i].b r.H[i].c = true := (hok.hd _ (List.getElem_mem hi')).2.1
    rw [vts_snoc hi']
    by_cases hs : 0 < hdSum r.H[i]
    · rw [if_pos hs]
      obtain ⟨s1, s2⟩ := vtR_step hu h3 hi' d0 d1 hs
      have ha : alnF (vent r.dy r.H[i]) = 0 := by
        unfold stpE at s1
        by_cases h : alnF (vent r.dy r.H[i]) = 0
        · exact h
        · rw [if_neg h] at s1; exact absurd s1 h
      have hp : posF (vtR r r.dy i) (vent r.dy r.H[i]) = 0 := by
        unfold stpE at s1; rw [if_pos ha] at s1; exact s1
      have hk := (step_ok h3 ha hp).1
      rw [s2] at hk
      refine ⟨?_, fun j => ?_, by rw [Nat.add_assoc] at hk; exact hk, by simp; omega⟩
      · rw [runR_app, h1]; exact s2
      · rw [dia_app _ _ _ (h2 j), h1]
        simp [dia, s1]
    · rw [if_neg hs, List.append_nil, vtR_skip (by rw [List.getD_eq_getElem?_getD, List.getElem?_eq_getElem hi']; exact hc) hi' hs]
      exact ⟨h1, h2, h3.mono (by omega), by omega⟩
theorem stp_dy (r : Rm) (x : Fl) : (stpR r x).dy = x.d := by
  unfold stpR
  split
  · rfl
  · split <;> rfl
theorem run_dy : ∀ (X : List Fl) (r : Rm) (i : Nat), (dia r X i).2 = 0 → 0 ≤ r.dy → r.dy ≤ 100000 → 0 ≤ (runR r X).dy ∧ (runR r X).dy ≤ 100000
  | [], _, _, _, h0, h1 => ⟨h0, h1⟩
  | x :: l, r, i, h, h0, h1 => by
    by_cases hz : stpE r x = 0
    · have h' : (dia (stpR r x) l (i + 1)).2 = 0 := by simpa [dia, hz] using h
      have ha : alnF x = 0 := by
        unfold stpE at hz
        by_cases h : alnF x = 0
        · exact h
        · rw [if_neg h] at hz; exact absurd hz h
      obtain ⟨_, _, _, _, _, _, _, _, d0, d1⟩ := aln_ok ha
      exact run_dy l (stpR r x) (i + 1) h' (by rw [stp_dy]; exact d0) (by rw [stp_dy]; exact d1)
    · exact absurd (by simp [dia, hz] at h) hz
/-- The diary and all vents behind it. -/
theorem gb_all {L : List Ve} {X : List Fl} {N : Nat} {r : Rm} (hD : behP L X = (N, 0)) (hr : runR (rm0 L) X = r) (hX : X.length ≤ 100) : ∀ i, i ≤ r.H.length →
    (behP L (X ++ vts r.dy (r.H.take i))).2 = 0 ∧ runR (rm0 L) (X ++ vts r.dy (r.H.take i)) = vtR r r.dy i ∧ (vts r.dy (r.H.take i)).length ≤ i := by
  intro i hi
  obtain ⟨hok, _, _, hmap⟩ := beh_all hD
  rw [hr] at hok hmap
  have h0 : (behP L X).2 = 0 := by rw [hD]
  obtain ⟨l20, _⟩ := beh_len h0
  have hC : ctV L = 0 := by
    unfold behP at h0
    by_cases h1 : ctV L = 0
    · exact h1
    · rw [if_neg h1] at h0; exact absurd h0 h1
  have hdia : (dia (rm0 L) X 0).2 = 0 := by
    unfold behP at h0
    rw [if_pos hC, if_neg (by omega)] at h0
    exact h0
  have hu : ∀ q, (hq : q < r.H.length) → fndV r.H[q].nm (r.H.map hdS) = q := by
    intro q hq
    have hq' : q < L.length := by rw [← hmap]; simpa using hq
    have h1 := ct_uniq hC q hq'
    have h2 : L[q].nm = r.H[q].nm := by
      have : L[q] = hdS r.H[q] := by simp only [← hmap, List.getElem_map]
      rw [this]; rfl
    rw [hmap, ← h2]; exact h1
  have hdy := run_dy X (rm0 L) 0 hdia (show (0 : Int) ≤ 0 by decide) (show (0 : Int) ≤ 100000 by decide)
  rw [hr] at hdy
  obtain ⟨v1, v2, _, v4⟩ := vts_run hu hok hdy.1 hdy.2 i hi
  have hl : r.H.length = L.length := by rw [← hmap]; simp
  refine ⟨?_, ?_, v4⟩
  · unfold behP
    rw [if_pos hC, if_neg (by simp; omega), dia_app X (rm0 L) 0 hdia, hr]
    exact v2 _
  · rw [runR_app, hr]; exact v1
end Go.Proofs.Ytjkhjjmmkdfjmaa
