import Derived.Test.YtjkhjjmmkdfjmaaGTFRefM
namespace Go.Proofs.Ytjkhjjmmkdfjmaa
set_option linter.unusedVariables false
set_option linter.unusedSimpArgs false
/-- A sum over vessels. -/
def sm (f : Hd → Int) : List Hd → Int
  | [] => 0
  | g :: r => f g + sm f r
theorem sm_set {f : Hd → Int} (x : Hd) : ∀ {H : List Hd} {j : Nat} (hj : j < H.length), sm f (H.set j x) = sm f H - f H[j] + f x
  | [], _, hj => absurd hj (by simp)
  | g :: r, 0, _ => by simp only [List.set_cons_zero, sm, List.getElem_cons_zero]; omega
  | g :: r, j + 1, hj => by
    have ih := sm_set (f := f) x (H := r) (j := j) (by simpa using hj)
    simp only [List.set_cons_succ, sm, List.getElem_cons_succ]; rw [ih]; omega
/-- What came in is in the vessels, or was vented. -/
structure Bal (r : Rm) : Prop where
  a : sm Hd.a r.H + r.k0 = r.g0
  b : sm Hd.b r.H + r.k1 = r.g1
  c : sm Hd.c r.H + r.k2 = r.g2
def Prs (H : List Hd) : Prop := ∀ g ∈ H, 1000 * hdSum g ≤ g.m * g.v
theorem prs_set {H : List Hd} (h : Prs H) {j : Nat} (hj : j < H.length) {a b c : Int} (hx : 1000 * (a + b + c) ≤ H[j].m * H[j].v) : Prs (H.set j (putC H[j] a b c)) := fun g hg => by
  rcases List.mem_or_eq_of_mem_set hg with h1 | h1
  · exact h g h1
  · rw [h1]; exact hx
theorem pos0_le {d dy am S vo mo : Int} (h : pos0 d dy am S vo mo = 0) : 1000 * (S + am) ≤ mo * vo := by
  unfold pos0 at h
  by_cases h1 : d < dy
  · rw [if_pos h1] at h; exact absurd h (by decide)
  rw [if_neg h1] at h
  by_cases h2 : mo * vo < 1000 * (S + am)
  · rw [if_pos h2] at h; exact absurd h (by decide)
  · omega
theorem pos1_le {d dy am : Int} {pu : Bool} {A va B vo mo : Int} (h : pos1 d dy am pu A va B vo mo = 0) : am ≤ A ∧ 1000 * (B + am) ≤ mo * vo := by
  unfold pos1 at h
  by_cases h1 : d < dy
  · rw [if_pos h1] at h; exact absurd h (by decide)
  rw [if_neg h1] at h
  by_cases h2 : A < am
  · rw [if_pos h2] at h; exact absurd h (by decide)
  rw [if_neg h2] at h
  by_cases h3 : mo * vo < 1000 * (B + am)
  · rw [if_pos h3] at h; exact absurd h (by decide)
  · exact ⟨by omega, by omega⟩
theorem bal_ok {r : Rm} {x : Fl} {c : Nat} (hok : RmOk r c) (ha : alnF x = 0) (hp : posF r x = 0) (hb : Bal r) (hq9 : Prs r.H) : Bal (stpR r x) ∧ Prs (stpR r x).H := by
  obtain ⟨k, d, fr, tz, o, h, am, pu⟩ := x
  obtain ⟨H, g0, g1, g2, k0, k1, k2, dy⟩ := r
  obtain ⟨hh, b0, b1, b2, b3, b4, b5⟩ := hok
  obtain ⟨t0, t1, t2⟩ := hb
  dsimp only at hh b0 b1 b2 b3 b4 b5 t0 t1 t2 hq9
  have ha' : alnE k d fr tz o h am pu = 0 := ha
  obtain ⟨hk, am1, am2, hG, hz, hf, ht, hd, d0, d1⟩ := aln_ok ha'
  unfold posF frI tzI at hp
  dsimp only at hp
  by_cases hm : (fndV fr (H.map hdS) < 0 ∧ k ≠ 0) ∨ (fndV tz (H.map hdS) < 0 ∧ k ≠ 2)
  · rw [if_pos hm] at hp; exact absurd hp (by decide)
  rw [if_neg hm] at hp
  rcases hk with rfl | rfl | rfl
  · rw [if_pos rfl] at hp
    rcases fnd_two tz H with T | ⟨q, hq, T, hnm⟩
    · exact absurd (Or.inr ⟨by omega, by decide⟩) hm
    rw [T, hdAt_q hq] at hp
    obtain ⟨y0, y1, y2, y3, y4, y5⟩ := hh _ (List.getElem_mem hq)
    have hR' : stpR ⟨H, g0, g1, g2, k0, k1, k2, dy⟩ ⟨0, d, fr, tz, o, h, am, pu⟩ = ⟨H.set q (putC H[q] (H[q].a + am * o / 1000) (H[q].b + am * h / 1000) (H[q].c + (am - (am * o / 1000 + am * h / 1000)))), g0 + am * o / 1000, g1 + am * h / 1000, g2 + (am - (am * o / 1000 + am * h / 1000)), k0, k1, k2, d⟩ := by
      unfold stpR tzI; dsimp only; rw [if_pos rfl, T, hdAt_q hq]; unfold inR; rw [Int.toNat_natCast]
    rw [hR']
    obtain ⟨-, -, -, -, -, -, e1, X0, Y0, Z0, X1, Y1, Z1⟩ := bri_math hG am1 am2 rfl rfl rfl
    have hs := pos0_le hp
    unfold hdSum at hs
    refine ⟨⟨?_, ?_, ?_⟩, prs_set hq9 hq ?_⟩
    · show sm Hd.a (H.set q _) + k0 = _; rw [sm_set _ hq]; show sm Hd.a H - H[q].a + (H[q].a + am * o / 1000) + k0 = g0 + am * o / 1000; omega
    · show sm Hd.b (H.set q _) + k1 = _; rw [sm_set _ hq]; show sm Hd.b H - H[q].b + (H[q].b + am * h / 1000) + k1 = g1 + am * h / 1000; omega
    · show sm Hd.c (H.set q _) + k2 = _; rw [sm_set _ hq]; show sm Hd.c H - H[q].c + (H[q].c + (am - (am * o / 1000 + am * h / 1000))) + k2 = g2 + (am - (am * o / 1000 + am * h / 1000)); omega
    · show 1000 * (H[q].a + am * o / 1000 + (H[q].b + am * h / 1000) + (H[q].c + (am - (am * o / 1000 + am * h / 1000)))) ≤ H[q].m * H[q].v
      have : H[q].a + am * o / 1000 + (H[q].b + am * h / 1000) + (H[q].c + (am - (am * o / 1000 + am * h / 1000))) = H[q].a + H[q].b + H[q].c + am := by omega
      rw [this]; exact hs
  · rw [if_neg (by decide), if_neg (by decide)] at hp
    rcases fnd_two fr H with F | ⟨p, hpl, F, hnp⟩
    · exact absurd (Or.inl ⟨by omega, by decide⟩) hm
    rcases fnd_two tz H with T | ⟨q, hq, T, hnm⟩
    · exact absurd (Or.inr ⟨by omega, by decide⟩) hm
    rw [F, T, hdAt_q hpl, hdAt_q hq] at hp
    obtain ⟨y0, y1, y2, y3, y4, y5⟩ := hh _ (List.getElem_mem hpl)
    obtain ⟨v0, v1, v2, v3, v4, v5⟩ := hh _ (List.getElem_mem hq)
    have hne : p ≠ q := by
      intro e; subst e
      exact hd rfl (by rw [← hnp, ← hnm])
    obtain ⟨⟨X, Y, Z⟩, hs⟩ : ∃ s, shareR H[p].a H[p].b H[p].c am = s := ⟨_, rfl⟩
    have hR' : stpR ⟨H, g0, g1, g2, k0, k1, k2, dy⟩ ⟨1, d, fr, tz, o, h, am, pu⟩ = ⟨(H.set p (putC H[p] (H[p].a - X) (H[p].b - Y) (H[p].c - Z))).set q (putC H[q] (H[q].a + X) (H[q].b + Y) (H[q].c + Z)), g0, g1, g2, k0, k1, k2, d⟩ := by
      unfold stpR frI tzI; dsimp only; rw [if_neg (by decide), if_neg (by decide), F, T, hdAt_q hpl, hdAt_q hq, hs]; unfold movR; rw [Int.toNat_natCast, Int.toNat_natCast]
    rw [hR']
    have cc := conB_iff.1 y1
    have dd := conB_iff.1 v1
    have hz' := pos1_le hp
    unfold hdSum at hz'
    obtain ⟨e1, ⟨X0, X1, -, -⟩, ⟨Y0, Y1, -, -⟩, Z0, Z1, -, -⟩ := share_ok y1 (by omega) hz'.1 hs
    have hq2 : q < (H.set p (putC H[p] (H[p].a - X) (H[p].b - Y) (H[p].c - Z))).length := by simpa using hq
    have hget : (H.set p (putC H[p] (H[p].a - X) (H[p].b - Y) (H[p].c - Z)))[q] = H[q] := by rw [List.getElem_set, if_neg hne]
    have pp := hq9 _ (List.getElem_mem hpl)
    unfold hdSum at pp
    have hP1 : Prs (H.set p (putC H[p] (H[p].a - X) (H[p].b - Y) (H[p].c - Z))) := prs_set hq9 hpl (by
      generalize H[p].m * H[p].v = W at *; omega)
    have hP2 := prs_set (a := H[q].a + X) (b := H[q].b + Y) (c := H[q].c + Z) hP1 hq2 (by
      rw [hget]
      have := hz'.2
      generalize H[q].m * H[q].v = W at *; omega)
    rw [hget] at hP2
    refine ⟨⟨?_, ?_, ?_⟩, hP2⟩
    · show sm Hd.a (List.set _ q _) + k0 = _; rw [sm_set _ hq2, sm_set _ hpl, hget]; show sm Hd.a H - H[p].a + (H[p].a - X) - H[q].a + (H[q].a + X) + k0 = g0; omega
    · show sm Hd.b (List.set _ q _) + k1 = _; rw [sm_set _ hq2, sm_set _ hpl, hget]; show sm Hd.b H - H[p].b + (H[p].b - Y) - H[q].b + (H[q].b + Y) + k1 = g1; omega
    · show sm Hd.c (List.set _ q _) + k2 = _; rw [sm_set _ hq2, sm_set _ hpl, hget]; show sm Hd.c H - H[p].c + (H[p].c - Z) - H[q].c + (H[q].c + Z) + k2 = g2; omega
  · rw [if_neg (by decide), if_pos rfl] at hp
    rcases fnd_two fr H with F | ⟨q, hq, F, hnm⟩
    · exact absurd (Or.inl ⟨by omega, by decide⟩) hm
    rw [F, hdAt_q hq] at hp
    obtain ⟨y0, y1, y2, y3, y4, y5⟩ := hh _ (List.getElem_mem hq)
    obtain ⟨⟨X, Y, Z⟩, hs⟩ : ∃ s, shareR H[q].a H[q].b H[q].c am = s := ⟨_, rfl⟩
    have hR' : stpR ⟨H, g0, g1, g2, k0, k1, k2, dy⟩ ⟨2, d, fr, tz, o, h, am, pu⟩ = ⟨H.set q (putC H[q] (H[q].a - X) (H[q].b - Y) (H[q].c - Z)), g0, g1, g2, k0 + X, k1 + Y, k2 + Z, d⟩ := by
      unfold stpR frI; dsimp only; rw [if_neg (by decide), if_pos rfl, F, hdAt_q hq, hs]; unfold outR; rw [Int.toNat_natCast]
    rw [hR']
    have cc := conB_iff.1 y1
    have hz' := pos2_z hp
    unfold hdSum at hz'
    obtain ⟨e1, ⟨X0, X1, -, -⟩, ⟨Y0, Y1, -, -⟩, Z0, Z1, -, -⟩ := share_ok y1 (by omega) hz' hs
    have pp := hq9 _ (List.getElem_mem hq)
    unfold hdSum at pp
    refine ⟨⟨?_, ?_, ?_⟩, prs_set hq9 hq ?_⟩
    · show sm Hd.a (H.set q _) + (k0 + X) = _; rw [sm_set _ hq]; show sm Hd.a H - H[q].a + (H[q].a - X) + (k0 + X) = g0; omega
    · show sm Hd.b (H.set q _) + (k1 + Y) = _; rw [sm_set _ hq]; show sm Hd.b H - H[q].b + (H[q].b - Y) + (k1 + Y) = g1; omega
    · show sm Hd.c (H.set q _) + (k2 + Z) = _; rw [sm_set _ hq]; show sm Hd.c H - H[q].c + (H[q].c - Z) + (k2 + Z) = g2; omega
    · show 1000 * (H[q].a - X + (H[q].b - Y) + (H[q].c - Z)) ≤ H[q].m * H[q].v
      generalize H[q].m * H[q].v = W at *; omega
theorem bal0 (L : List Ve) : Bal (rm0 L) := by
  have h : ∀ (f : Hd → Int), (∀ g, f (hd0 g) = 0) → sm f (L.map hd0) = 0 := fun f hf => by
    induction L with
    | nil => rfl
    | cons g r ih => rw [List.map_cons, sm, hf, ih]; rfl
  exact ⟨by show sm Hd.a (L.map hd0) + 0 = 0; rw [h _ fun _ => rfl]; rfl, by show sm Hd.b (L.map hd0) + 0 = 0; rw [h _ fun _ => rfl]; rfl, by show sm Hd.c (L.map hd0) + 0 = 0; rw [h _ fun _ => rfl]; rfl⟩
theorem prs0 {L : List Ve} (h : RmOk (rm0 L) 0) : Prs (rm0 L).H := fun g hg => by
  obtain ⟨x, _, rfl⟩ := List.mem_map.1 hg
  obtain ⟨_, _, h1, _, h2, _⟩ := h.hd _ hg
  show 1000 * (0 + 0 + 0) ≤ _
  have := Int.mul_nonneg (show 0 ≤ (hd0 x).m by omega) (show 0 ≤ (hd0 x).v by omega)
  omega
/-- Behind right fills. -/
theorem run_all : ∀ (X : List Fl) (r : Rm) (c i : Nat) {N : Nat}, RmOk r c → Bal r → Prs r.H → dia r X i = (N, 0) → RmOk (runR r X) (c + X.length) ∧ Bal (runR r X) ∧ Prs (runR r X).H ∧ (runR r X).H.map hdS = r.H.map hdS
  | [], r, c, i, _, h1, h2, h3, _ => ⟨h1, h2, h3, rfl⟩
  | x :: l, r, c, i, N, h1, h2, h3, hd => by
    unfold dia at hd
    by_cases hs : stpE r x = 0
    · rw [if_pos hs] at hd
      have ha : alnF x = 0 := by
        unfold stpE at hs
        by_cases h : alnF x = 0
        · exact h
        · rw [if_neg h] at hs; exact hs
      have hp : posF r x = 0 := by unfold stpE at hs; rw [if_pos ha] at hs; exact hs
      obtain ⟨s1, s2⟩ := step_ok h1 ha hp
      obtain ⟨b1, b2⟩ := bal_ok h1 ha hp h2 h3
      obtain ⟨q1, q2, q3, q4⟩ := run_all l (stpR r x) (c + 1) (i + 1) s1 b1 b2 hd
      exact ⟨by rw [show c + (x :: l).length = c + 1 + l.length by simp; omega]; exact q1, q2, q3, q4.trans s2⟩
    · rw [if_neg hs] at hd; exact absurd (Prod.mk.inj hd).2 hs
end Go.Proofs.Ytjkhjjmmkdfjmaa
