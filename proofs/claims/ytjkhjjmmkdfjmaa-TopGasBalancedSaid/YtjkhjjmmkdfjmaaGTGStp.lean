import Derived.Test.YtjkhjjmmkdfjmaaGTGBal
import Derived.Test.YtjkhjjmmkdfjmaaGTLawFl
import Derived.Test.YtjkhjjmmkdfjmaaGTBlk
namespace Go.Proofs.Ytjkhjjmmkdfjmaa
open Go.ChangeShapes Go.WideShapes Go.ChangeAt Go.RowKit
set_option linter.unusedVariables false
set_option linter.unusedSimpArgs false
/-- What a fill does to the contents, for each kind. -/
inductive Stp (L : List Ve) (x : Fl) (H H2 : List Hd) : Prop
  | into (q : Nat) (hq : q < H.length) (hk : x.k = 0) (hf : fndV x.tz L = q) (hc : conB H[q].a H[q].b H[q].c = true) (he : H2 = H.set q (putC H[q] (H[q].a + x.am * x.o / 1000) (H[q].b + x.am * x.h / 1000) (H[q].c + (x.am - (x.am * x.o / 1000 + x.am * x.h / 1000))))) : Stp L x H H2
  | move (p q : Nat) (hp : p < H.length) (hq : q < H.length) (hne : p ≠ q) (hk : x.k = 1) (hf : fndV x.fr L = p) (ht : fndV x.tz L = q) (hc : conB H[p].a H[p].b H[p].c = true) (hm : x.am ≤ H[p].a + H[p].b + H[p].c) (hd : conB H[q].a H[q].b H[q].c = true) (X Y Z : Int) (hs : shareR H[p].a H[p].b H[p].c x.am = (X, Y, Z)) (he : H2 = (H.set p (putC H[p] (H[p].a - X) (H[p].b - Y) (H[p].c - Z))).set q (putC H[q] (H[q].a + X) (H[q].b + Y) (H[q].c + Z))) : Stp L x H H2
  | out (p : Nat) (hp : p < H.length) (hk : x.k = 2) (hf : fndV x.fr L = p) (hc : conB H[p].a H[p].b H[p].c = true) (hm : x.am ≤ H[p].a + H[p].b + H[p].c) (X Y Z : Int) (hs : shareR H[p].a H[p].b H[p].c x.am = (X, Y, Z)) (he : H2 = H.set p (putC H[p] (H[p].a - X) (H[p].b - Y) (H[p].c - Z))) : Stp L x H H2
theorem stp_of {L : List Ve} {r : Rm} {x : Fl} {c : Nat} (hok : RmOk r c) (ha : alnF x = 0) (hp : posF r x = 0) (hL : r.H.map hdS = L) : Stp L x r.H (stpR r x).H := by
  subst hL
  obtain ⟨k, d, fr, tz, o, h, am, pu⟩ := x
  obtain ⟨H, g0, g1, g2, k0, k1, k2, dy⟩ := r
  obtain ⟨hh, b0, b1, b2, b3, b4, b5⟩ := hok
  dsimp only at hh
  have ha' : alnE k d fr tz o h am pu = 0 := ha
  obtain ⟨hk, am1, am2, hG, hz, hf, ht, hd, d0, d1⟩ := aln_ok ha'
  unfold posF frI tzI at hp
  dsimp only at hp
  by_cases hm : (fndV fr (H.map hdS) < 0 ∧ k ≠ 0) ∨ (fndV tz (H.map hdS) < 0 ∧ k ≠ 2)
  · rw [if_pos hm] at hp; exact absurd hp (by decide)
  rw [if_neg hm] at hp
  rcases hk with rfl | rfl | rfl
  · rw [if_pos rfl] at hp
    rcases fnd_two tz H with T | ⟨q, hq, T, hnm⟩
    · exact absurd (Or.inr ⟨by omega, by decide⟩) hm
    have hR' : (stpR ⟨H, g0, g1, g2, k0, k1, k2, dy⟩ ⟨0, d, fr, tz, o, h, am, pu⟩).H = H.set q (putC H[q] (H[q].a + am * o / 1000) (H[q].b + am * h / 1000) (H[q].c + (am - (am * o / 1000 + am * h / 1000)))) := by
      unfold stpR tzI; dsimp only; rw [if_pos rfl, T, hdAt_q hq]; unfold inR; rw [Int.toNat_natCast]
    exact .into q hq rfl T (hh _ (List.getElem_mem hq)).2.1 hR'
  · rw [if_neg (by decide), if_neg (by decide)] at hp
    rcases fnd_two fr H with F | ⟨p, hpl, F, hnp⟩
    · exact absurd (Or.inl ⟨by omega, by decide⟩) hm
    rcases fnd_two tz H with T | ⟨q, hq, T, hnm⟩
    · exact absurd (Or.inr ⟨by omega, by decide⟩) hm
    rw [F, T, hdAt_q hpl, hdAt_q hq] at hp
    have hne : p ≠ q := by
      intro e; subst e
      exact hd rfl (by rw [← hnp, ← hnm])
    obtain ⟨⟨X, Y, Z⟩, hs⟩ : ∃ s, shareR H[p].a H[p].b H[p].c am = s := ⟨_, rfl⟩
    have hR' : (stpR ⟨H, g0, g1, g2, k0, k1, k2, dy⟩ ⟨1, d, fr, tz, o, h, am, pu⟩).H = (H.set p (putC H[p] (H[p].a - X) (H[p].b - Y) (H[p].c - Z))).set q (putC H[q] (H[q].a + X) (H[q].b + Y) (H[q].c + Z)) := by
      unfold stpR frI tzI; dsimp only; rw [if_neg (by decide), if_neg (by decide), F, T, hdAt_q hpl, hdAt_q hq, hs]; unfold movR; rw [Int.toNat_natCast, Int.toNat_natCast]
    exact .move p q hpl hq hne rfl F T (hh _ (List.getElem_mem hpl)).2.1 (pos1_z hp).1 (hh _ (List.getElem_mem hq)).2.1 X Y Z hs hR'
  · rw [if_neg (by decide), if_pos rfl] at hp
    rcases fnd_two fr H with F | ⟨q, hq, F, hnm⟩
    · exact absurd (Or.inl ⟨by omega, by decide⟩) hm
    rw [F, hdAt_q hq] at hp
    obtain ⟨⟨X, Y, Z⟩, hs⟩ : ∃ s, shareR H[q].a H[q].b H[q].c am = s := ⟨_, rfl⟩
    have hR' : (stpR ⟨H, g0, g1, g2, k0, k1, k2, dy⟩ ⟨2, d, fr, tz, o, h, am, pu⟩).H = H.set q (putC H[q] (H[q].a - X) (H[q].b - Y) (H[q].c - Z)) := by
      unfold stpR frI; dsimp only; rw [if_neg (by decide), if_pos rfl, F, hdAt_q hq, hs]; unfold outR; rw [Int.toNat_natCast]
    exact .out q hq rfl F (hh _ (List.getElem_mem hq)).2.1 (pos2_z hp) X Y Z hs hR'
/-- Of a right diary, each fill. -/
theorem stp_at {L : List Ve} {Y : List Fl} {N : Nat} (h : behP L Y = (N, 0)) {j : Nat} (hj : j < Y.length) :
    Stp L Y[j] (runR (rm0 L) (Y.take j)).H (runR (rm0 L) (Y.take (j + 1))).H ∧ (runR (rm0 L) (Y.take (j + 1))).dy = Y[j].d ∧ 1 ≤ Y[j].am ∧ Y[j].am ≤ 1000000000 ∧ gasE Y[j].o Y[j].h = 0 ∧ (runR (rm0 L) (Y.take j)).H.length = L.length := by
  obtain ⟨ok1, _, _, hmap⟩ := beh_all (behP_take h j)
  have h2 := behP_take h (j + 1)
  have h1 : (behP L (Y.take j)).2 = 0 := by rw [behP_take h j]
  have h3 : (behP L (Y.take (j + 1))).2 = 0 := by rw [h2]
  have e : Y.take (j + 1) = Y.take j ++ [Y[j]] := by rw [List.take_succ_eq_append_getElem hj]
  rw [e, beh_snoc h1] at h3
  unfold addE at h3
  rw [if_pos h1] at h3
  have hs : stpE (runR (rm0 L) (Y.take j)) Y[j] = 0 := by
    by_cases g : 200 ≤ (Y.take j).length
    · rw [if_pos g] at h3; exact absurd h3 (by decide)
    · rw [if_neg g] at h3; exact h3
  have ha : alnF Y[j] = 0 := by
    unfold stpE at hs
    by_cases g : alnF Y[j] = 0
    · exact g
    · rw [if_neg g] at hs; exact absurd hs g
  have hp : posF (runR (rm0 L) (Y.take j)) Y[j] = 0 := by
    unfold stpE at hs; rw [if_pos ha] at hs; exact hs
  have er : runR (rm0 L) (Y.take (j + 1)) = stpR (runR (rm0 L) (Y.take j)) Y[j] := runR_take hj
  rw [er]
  obtain ⟨_, a1, a2, a3, _⟩ := alnF_ok ha
  exact ⟨stp_of ok1 ha hp hmap, stp_dy _ _, a1, a2, a3, by have := congrArg List.length hmap; rw [List.length_map] at this; exact this⟩
/-- Where the loop of the law stands: what is in the vessels as the program says, and as it is counted fill by fill. -/
structure GbS (w : World) (B nb : Nat) (Ac : Option Addr) (Hin H : List Hd) (X : World) : Prop where
  rw' : RowsAt ctC 3 X nb 0 H
  fz : ∀ j, X.frozen? ⟨nb, j, none⟩ = false
  ln : nb < X.heap.size
  gn : B ≤ nb
  wb : w.heap.size ≤ B
  ci : Hin = [] ∨ ∃ ab ao, Ac = some ⟨ab, ao, none⟩ ∧ ab < B ∧ RowsAt ctC 3 X ab ao Hin
  be : Below w.heap.size w X
theorem GbS.below {w : World} {B nb : Nat} {Ac : Option Addr} {Hin H : List Hd} {X X' : World} (h : GbS w B nb Ac Hin H X) (hb : Below X.heap.size X X') : GbS w B nb Ac Hin H X' := by
  obtain ⟨r, f, l, g, wb, ci, be⟩ := h
  refine ⟨r.below hb l, fun j => (hb.frozen (p := ⟨nb, j, none⟩) l).trans (f j), Nat.lt_of_lt_of_le l hb.size, g, wb, ci.imp id ?_, be.trans (hb.mono be.size)⟩
  rintro ⟨ab, ao, e, hl, hr⟩
  exact ⟨ab, ao, e, hl, hr.below hb (by omega)⟩
theorem GbS.drew {w : World} {B nb : Nat} {Ac : Option Addr} {Hin H : List Hd} {X : World} (h : GbS w B nb Ac Hin H X) : GbS w B nb Ac Hin H X.drew := h.below (Below.refl _ _).drew
theorem GbS.put {w : World} {B nb : Nat} {Ac : Option Addr} {Hin H : List Hd} {X : World} (h : GbS w B nb Ac Hin H X) {q : Nat} (hq : q < H.length) (g : Hd) : GbS w B nb Ac Hin (H.set q g) (stW X nb (q * 3) (ctC g)) := by
  obtain ⟨r, f, l, gg, wb, ci, be⟩ := h
  refine ⟨r.st (f := ctC) (n := 3) (fun _ => rfl) hq g, fun j => by rw [stW_frozen]; exact f j, by rw [stW_size]; exact l, gg, wb, ci.imp id ?_, stW_below (by omega) _ _ _ be⟩
  rintro ⟨ab, ao, e, hl, hr⟩
  exact ⟨ab, ao, e, hl, hr.other (by omega)⟩
/-- A store into another block of the loop's own. -/
theorem GbS.other {w : World} {B nb b i : Nat} {l : List Value} {Ac : Option Addr} {Hin H : List Hd} {X : World} (h : GbS w B nb Ac Hin H X) (hb : nb < b) : GbS w B nb Ac Hin H (stW X b i l) := by
  obtain ⟨r, f, ln, gg, wb, ci, be⟩ := h
  refine ⟨r.other (by omega), fun j => by rw [stW_frozen]; exact f j, by rw [stW_size]; exact ln, gg, wb, ci.imp id ?_, stW_below (by omega) _ _ _ be⟩
  rintro ⟨ab, ao, e, hl, hr⟩
  exact ⟨ab, ao, e, hl, hr.other (by omega)⟩
theorem GbS.at' {w : World} {B nb : Nat} {Ac : Option Addr} {Hin H : List Hd} {X : World} (h : GbS w B nb Ac Hin H X) {q : Nat} (hq : q < H.length) : X.cell? ⟨nb, q * 3, none⟩ = some (.int .i64 H[q].a) ∧ X.cell? ⟨nb, q * 3 + 1, none⟩ = some (.int .i64 H[q].b) ∧ X.cell? ⟨nb, q * 3 + 2, none⟩ = some (.int .i64 H[q].c) := by
  have := ctr_at h.rw' hq
  simpa only [Nat.zero_add] using this
/-- A slice cut off at an index. -/
theorem slice_cut (fA : Option Addr) (m fcap kc : Nat) (h1 : kc ≤ m) (h2 : m ≤ fcap) (cF : fA = none → fcap = 0) (x : World) : (Instr.slice 23 (.slice fA m fcap) none (some (.int .i64 kc)) none).run Try.prog x = .ok (.slice fA kc fcap) x := by
  cases fA with
  | none =>
    have := cF rfl
    subst this
    obtain rfl : m = 0 := by omega
    obtain rfl : kc = 0 := by omega
    simp [go_sem]
  | some a =>
    have kc2 : (kc : Int) ≤ (fcap : Int) := by omega
    simp [go_sem, kc2, Addr.add]
theorem vtR_all (r : Rm) (d : Int) : (vtR r d r.H.length).H = r.H.map zer := by simp [vtR]
theorem sm_zer (f : Hd → Int) (hf : ∀ g, f (zer g) = 0) : ∀ (H : List Hd), sm f (H.map zer) = 0
  | [] => rfl
  | g :: l => by
    show f (zer g) + sm f (l.map zer) = 0
    rw [hf, sm_zer f hf l]; rfl
/-- Behind all vents what came in was vented. -/
theorem vt_bal {L : List Ve} {Y : List Fl} {r : Rm} (hD : behP L Y = (0, 0)) (hr : runR (rm0 L) Y = r) (hX : Y.length ≤ 100) :
    ∃ N, behP L (Y ++ vts r.dy (r.H.take r.H.length)) = (N, 0) ∧ runR (rm0 L) (Y ++ vts r.dy (r.H.take r.H.length)) = vtR r r.dy r.H.length ∧ (vtR r r.dy r.H.length).k0 = (vtR r r.dy r.H.length).g0 ∧ (vtR r r.dy r.H.length).k1 = (vtR r r.dy r.H.length).g1 ∧ (vtR r r.dy r.H.length).k2 = (vtR r r.dy r.H.length).g2 ∧ (vtR r r.dy r.H.length).H.length = r.H.length := by
  obtain ⟨h1, h2, _⟩ := gb_all hD hr hX r.H.length (Nat.le_refl _)
  have h3 : behP L (Y ++ vts r.dy (r.H.take r.H.length)) = ((behP L (Y ++ vts r.dy (r.H.take r.H.length))).1, 0) := Prod.ext rfl h1
  obtain ⟨_, bal, _, _⟩ := beh_all h3
  rw [h2] at bal
  obtain ⟨t0, t1, t2⟩ := bal
  rw [vtR_all, sm_zer _ (fun _ => rfl)] at t0 t1 t2
  exact ⟨_, h3, h2, by omega, by omega, by omega, by rw [vtR_len]⟩
end Go.Proofs.Ytjkhjjmmkdfjmaa
