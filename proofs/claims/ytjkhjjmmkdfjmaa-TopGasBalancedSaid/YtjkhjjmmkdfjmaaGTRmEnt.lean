import Derived.Test.YtjkhjjmmkdfjmaaGTFRefM
import Derived.Test.YtjkhjjmmkdfjmaaGTRent0
import Derived.Test.YtjkhjjmmkdfjmaaGTRentI
import Derived.Test.YtjkhjjmmkdfjmaaGTRentV
import Derived.Test.YtjkhjjmmkdfjmaaGTRentM
import Derived.Test.YtjkhjjmmkdfjmaaGTRentM2
import Derived.Outline
namespace Go.Proofs.Ytjkhjjmmkdfjmaa
open Go.ChangeShapes Go.WideShapes Go.ChangeAt Go.RowKit
set_option linter.unusedVariables false
set_option linter.unusedSimpArgs false
def ctC (g : Hd) : List Value := [.int .i64 g.a, .int .i64 g.b, .int .i64 g.c]
/-- Where a store lies. -/
structure StAt (w : World) (sb ib n ic : Nat) (r : Rm) : Prop where
  s0 : w.cell? ⟨sb, 0, none⟩ = some (.slice (some ⟨ib, 0, none⟩) n ic)
  s1 : w.cell? ⟨sb, 1, none⟩ = some (.int .i64 r.g0)
  s2 : w.cell? ⟨sb, 2, none⟩ = some (.int .i64 r.g1)
  s3 : w.cell? ⟨sb, 3, none⟩ = some (.int .i64 r.g2)
  s4 : w.cell? ⟨sb, 4, none⟩ = some (.int .i64 r.k0)
  s5 : w.cell? ⟨sb, 5, none⟩ = some (.int .i64 r.k1)
  s6 : w.cell? ⟨sb, 6, none⟩ = some (.int .i64 r.k2)
  s7 : w.cell? ⟨sb, 7, none⟩ = some (.int .i64 r.dy)
  sf : ∀ j, w.frozen? ⟨sb, j, none⟩ = false
  vf : ∀ j, w.frozen? ⟨ib, j, none⟩ = false
  ls : sb < w.heap.size
  li : ib < w.heap.size
  nsi : sb ≠ ib
  hn : n = r.H.length
  nic : n ≤ ic
  hR : RowsAt ctC 3 w ib 0 r.H
theorem ct_at {w : World} {b : Nat} {H : List Hd} (h : RowsAt ctC 3 w b 0 H) {k : Nat} (hk : k < H.length) : w.cell? ⟨b, k * 3, none⟩ = some (.int .i64 H[k].a) ∧ w.cell? ⟨b, k * 3 + 1, none⟩ = some (.int .i64 H[k].b) ∧ w.cell? ⟨b, k * 3 + 2, none⟩ = some (.int .i64 H[k].c) := by
  have q := fun i hi => h k hk i hi
  simp only [Nat.zero_add] at q
  exact ⟨q 0 (by omega), q 1 (by omega), q 2 (by omega)⟩
theorem ct_set {w w' : World} {vb j : Nat} {H : List Hd} {a b c : Int} (hR : RowsAt ctC 3 w vb 0 H) (hj : j < H.length) (c0 : w'.cell? ⟨vb, j * 3, none⟩ = some (.int .i64 a)) (c1 : w'.cell? ⟨vb, j * 3 + 1, none⟩ = some (.int .i64 b)) (c2 : w'.cell? ⟨vb, j * 3 + 2, none⟩ = some (.int .i64 c)) (hV : ∀ q, q ≠ j * 3 → q ≠ j * 3 + 1 → q ≠ j * 3 + 2 → w'.cell? ⟨vb, q, none⟩ = w.cell? ⟨vb, q, none⟩) : RowsAt ctC 3 w' vb 0 (H.set j (putC H[j] a b c)) := by
  intro k hk i hi
  have hk' : k < H.length := by simpa using hk
  rw [List.getElem_set]
  by_cases e : j = k
  · subst e
    rw [if_pos rfl]
    rcases (show i = 0 ∨ i = 1 ∨ i = 2 by omega) with rfl | rfl | rfl
    · rw [Nat.zero_add, Nat.add_zero, c0]; rfl
    · rw [Nat.zero_add, c1]; rfl
    · rw [Nat.zero_add, c2]; rfl
  · rw [if_neg e, hV _ (by omega) (by omega) (by omega), hR k hk' i hi]
theorem ct_set2 {w w' : World} {vb p j : Nat} {H : List Hd} {a b c x y z : Int} (hR : RowsAt ctC 3 w vb 0 H) (hp : p < H.length) (hj : j < H.length) (hne : p ≠ j) (d0 : w'.cell? ⟨vb, p * 3, none⟩ = some (.int .i64 x)) (d1 : w'.cell? ⟨vb, p * 3 + 1, none⟩ = some (.int .i64 y)) (d2 : w'.cell? ⟨vb, p * 3 + 2, none⟩ = some (.int .i64 z)) (c0 : w'.cell? ⟨vb, j * 3, none⟩ = some (.int .i64 a)) (c1 : w'.cell? ⟨vb, j * 3 + 1, none⟩ = some (.int .i64 b)) (c2 : w'.cell? ⟨vb, j * 3 + 2, none⟩ = some (.int .i64 c)) (hV : ∀ q, q ≠ p * 3 → q ≠ p * 3 + 1 → q ≠ p * 3 + 2 → q ≠ j * 3 → q ≠ j * 3 + 1 → q ≠ j * 3 + 2 → w'.cell? ⟨vb, q, none⟩ = w.cell? ⟨vb, q, none⟩) : RowsAt ctC 3 w' vb 0 ((H.set p (putC H[p] x y z)).set j (putC H[j] a b c)) := by
  intro k hk i hi
  have hk' : k < H.length := by simpa using hk
  rw [List.getElem_set]
  by_cases e : j = k
  · subst e
    rw [if_pos rfl]
    rcases (show i = 0 ∨ i = 1 ∨ i = 2 by omega) with rfl | rfl | rfl
    · rw [Nat.zero_add, Nat.add_zero, c0]; rfl
    · rw [Nat.zero_add, c1]; rfl
    · rw [Nat.zero_add, c2]; rfl
  · rw [if_neg e, List.getElem_set]
    by_cases e2 : p = k
    · subst e2
      rw [if_pos rfl]
      rcases (show i = 0 ∨ i = 1 ∨ i = 2 by omega) with rfl | rfl | rfl
      · rw [Nat.zero_add, Nat.add_zero, d0]; rfl
      · rw [Nat.zero_add, d1]; rfl
      · rw [Nat.zero_add, d2]; rfl
    · rw [if_neg e2, hV _ (by omega) (by omega) (by omega) (by omega) (by omega) (by omega), hR k hk' i hi]
def EntPost (sb ib n ic : Nat) (r : Rm) (x : Fl) (w : World) (e : Ending) (w' : World) : Prop :=
  e = .returned (.int .i64 (posF r x)) ∧ (posF r x = 0 → StAt w' sb ib n ic (stpR r x)) ∧ BelowD sb ib w.heap.size w w' ∧ (posF r x ≠ 0 → Below w.heap.size w w')
theorem EntPost.bad {sb ib n ic : Nat} {r : Rm} {x : Fl} {w w' : World} {E : Int} {e : Ending} (hE : posF r x = E) (hz : ¬ E = 0) (he : e = .returned (.int .i64 E)) (hb : Below w.heap.size w w') : EntPost sb ib n ic r x w e w' :=
  ⟨by rw [he, hE], fun h => absurd (hE ▸ h) hz, BelowD.of hb (Nat.le_refl _), fun _ => hb⟩
theorem ent_in (sb ib v of n ic cap c : Nat) (H : List Hd) (g0 g1 g2 k0 k1 k2 dy d o h am : Int) (tz : ByteArray) (pu : Bool) (w : World) (hl : n ≤ 1000000) (hs : StAt w sb ib n ic ⟨H, g0, g1, g2, k0, k1, k2, dy⟩) (hok : RmOk ⟨H, g0, g1, g2, k0, k1, k2, dy⟩ c) (hc : c ≤ 800) (hv : RowsAt veV 3 w v of (H.map hdS)) (lv : v < w.heap.size) (nsv : sb ≠ v) (niv : ib ≠ v) (ha : alnE 0 d ⟨#[]⟩ tz o h am pu = 0) : Calls Try.prog 72 #[.slice (some ⟨v, of, none⟩) n cap, .pointer (some ⟨sb, 0, none⟩), .agg #[.int .i64 0, .int .i64 d, .string ⟨#[]⟩, .string tz, .int .i64 o, .int .i64 h, .int .i64 am, .bool pu]] w (EntPost sb ib n ic ⟨H, g0, g1, g2, k0, k1, k2, dy⟩ ⟨0, d, ⟨#[]⟩, tz, o, h, am, pu⟩ w) := by
  obtain ⟨s0, s1, s2, s3, s4, s5, s6, s7, sf, vf, ls, li, nsi, hn, nic, hR⟩ := hs
  obtain ⟨hh, b0, b1, b2, b3, b4, b5⟩ := hok
  dsimp only at s0 s1 s2 s3 s4 s5 s6 s7 hn hR hh b0 b1 b2 b3 b4 b5
  obtain ⟨hk, am1, am2, hG, hz, hf, ht, hd, d0, d1⟩ := aln_ok ha
  have F := fnd_emp hh
  have hL : Hid (SlRows veV 3 w (some ⟨v, of, none⟩) (H.map hdS)) := Lib.hid (Or.inr ⟨v, of, rfl, lv, hv⟩)
  have hnL : Hid (n = (H.map hdS).length) := Lib.hid (by rw [List.length_map]; exact hn)
  rcases fnd_two tz H with T | ⟨q, hq, T, hnm⟩
  · have hP : posF ⟨H, g0, g1, g2, k0, k1, k2, dy⟩ ⟨0, d, ⟨#[]⟩, tz, o, h, am, pu⟩ = 6 := by
      unfold posF tzI; dsimp only; rw [T, if_pos (Or.inr ⟨by decide, by decide⟩)]
    refine (rent_m0 sb n cap 0 _ (H.map hdS) d o h am 0 ⟨#[]⟩ tz pu w hnL hl hL (Lib.hid F) (Lib.hid T)).mono ?_
    rintro e w' ⟨rfl, hb⟩
    exact EntPost.bad hP (by decide) rfl hb
  · obtain ⟨x0, x1, x2⟩ := ct_at hR hq
    obtain ⟨y0, y1, y2, y3, y4, y5⟩ := hh _ (List.getElem_mem hq)
    have ve := ve_at hv (k := q) (by simpa using hq)
    simp only [List.getElem_map] at ve
    have hP : posF ⟨H, g0, g1, g2, k0, k1, k2, dy⟩ ⟨0, d, ⟨#[]⟩, tz, o, h, am, pu⟩ = pos0 d dy am (H[q].a + H[q].b + H[q].c) H[q].v H[q].m := by
      unfold posF frI tzI; dsimp only; rw [F, T, if_neg (by rintro (⟨_, h⟩ | ⟨h, _⟩); exact h rfl; omega), if_pos rfl, hdAt_q hq]; rfl
    refine (rent_I sb ib v of n ic cap 0 q (H.map hdS) d o h am g0 g1 g2 k0 k1 k2 dy 0 0 0 0 0 H[q].v H[q].m H[q].a H[q].b H[q].c _ _ (am * o / 1000) (am * h / 1000) (am - (am * o / 1000 + am * h / 1000)) _ _ _ _ _ _ ⟨#[]⟩ tz pu w hnL hl hL s0 s1 s2 s3 s4 s5 s6 s7 x0 x1 x2 ve.2.1 ve.2.2 vf sf li ls lv nsi nsv niv nic (Lib.hid F) (by omega) (Lib.hid T) (Lib.hid hG) am1 am2 (Lib.hid y1) (Lib.hid rfl) y2 (by omega) y4 (by omega) (Lib.hid rfl) (Lib.hid rfl) (Lib.hid rfl) (Lib.hid rfl) (by omega) (by omega) (by omega) (by omega) (by omega) (by omega) (Lib.hid ⟨rfl, rfl, rfl⟩) (Lib.hid ⟨rfl, rfl, rfl⟩)).mono ?_
    rintro e w' ⟨rfl, ⟨hz, hb⟩ | ⟨hz, q0, q1, q2, q3, q4, q5, q6, q7, t0, t1, t2, hV, vf', sf', hD⟩⟩
    · exact EntPost.bad hP hz rfl hb
    · have hR' : stpR ⟨H, g0, g1, g2, k0, k1, k2, dy⟩ ⟨0, d, ⟨#[]⟩, tz, o, h, am, pu⟩ = ⟨H.set q (putC H[q] (H[q].a + am * o / 1000) (H[q].b + am * h / 1000) (H[q].c + (am - (am * o / 1000 + am * h / 1000)))), g0 + am * o / 1000, g1 + am * h / 1000, g2 + (am - (am * o / 1000 + am * h / 1000)), k0, k1, k2, d⟩ := by
        unfold stpR tzI; dsimp only; rw [if_pos rfl, T, hdAt_q hq]; unfold inR; rw [Int.toNat_natCast]
      refine ⟨by rw [hP], fun _ => ?_, hD, fun h => absurd (hP.trans hz) h⟩
      rw [hR']
      exact ⟨q0, q1, q2, q3, q4, q5, q6, q7, sf', vf', Nat.lt_of_lt_of_le ls hD.size, Nat.lt_of_lt_of_le li hD.size, nsi, by simpa using hn, nic, ct_set hR hq t0 t1 t2 hV⟩
theorem ent_out (sb ib v of n ic cap c : Nat) (H : List Hd) (g0 g1 g2 k0 k1 k2 dy d am : Int) (fr : ByteArray) (pu : Bool) (w : World) (hl : n ≤ 1000000) (hs : StAt w sb ib n ic ⟨H, g0, g1, g2, k0, k1, k2, dy⟩) (hok : RmOk ⟨H, g0, g1, g2, k0, k1, k2, dy⟩ c) (hc : c ≤ 800) (hv : RowsAt veV 3 w v of (H.map hdS)) (lv : v < w.heap.size) (nsv : sb ≠ v) (niv : ib ≠ v) (ha : alnE 2 d fr ⟨#[]⟩ 0 0 am pu = 0) : Calls Try.prog 72 #[.slice (some ⟨v, of, none⟩) n cap, .pointer (some ⟨sb, 0, none⟩), .agg #[.int .i64 2, .int .i64 d, .string fr, .string ⟨#[]⟩, .int .i64 0, .int .i64 0, .int .i64 am, .bool pu]] w (EntPost sb ib n ic ⟨H, g0, g1, g2, k0, k1, k2, dy⟩ ⟨2, d, fr, ⟨#[]⟩, 0, 0, am, pu⟩ w) := by
  obtain ⟨s0, s1, s2, s3, s4, s5, s6, s7, sf, vf, ls, li, nsi, hn, nic, hR⟩ := hs
  obtain ⟨hh, b0, b1, b2, b3, b4, b5⟩ := hok
  dsimp only at s0 s1 s2 s3 s4 s5 s6 s7 hn hR hh b0 b1 b2 b3 b4 b5
  obtain ⟨hk, am1, am2, hG, hz, hf, ht, hd, d0, d1⟩ := aln_ok ha
  have T := fnd_emp hh
  have hL : Hid (SlRows veV 3 w (some ⟨v, of, none⟩) (H.map hdS)) := Lib.hid (Or.inr ⟨v, of, rfl, lv, hv⟩)
  have hnL : Hid (n = (H.map hdS).length) := Lib.hid (by rw [List.length_map]; exact hn)
  rcases fnd_two fr H with F | ⟨q, hq, F, hnm⟩
  · have hP : posF ⟨H, g0, g1, g2, k0, k1, k2, dy⟩ ⟨2, d, fr, ⟨#[]⟩, 0, 0, am, pu⟩ = 6 := by
      unfold posF frI; dsimp only; rw [F, if_pos (Or.inl ⟨by decide, by decide⟩)]
    refine (rent_m2 sb n cap 0 _ (H.map hdS) d 0 0 am 0 fr ⟨#[]⟩ pu w hnL hl hL (Lib.hid F) (Lib.hid T)).mono ?_
    rintro e w' ⟨rfl, hb⟩
    exact EntPost.bad hP (by decide) rfl hb
  · obtain ⟨x0, x1, x2⟩ := ct_at hR hq
    obtain ⟨y0, y1, y2, y3, y4, y5⟩ := hh _ (List.getElem_mem hq)
    have hP : posF ⟨H, g0, g1, g2, k0, k1, k2, dy⟩ ⟨2, d, fr, ⟨#[]⟩, 0, 0, am, pu⟩ = pos2 d dy am (H[q].a + H[q].b + H[q].c) := by
      unfold posF frI tzI; dsimp only; rw [F, T, if_neg (by rintro (⟨h, _⟩ | ⟨_, h⟩); omega; exact h rfl), if_neg (by decide), if_pos rfl, hdAt_q hq]; rfl
    obtain ⟨⟨X, Y, Z⟩, hs⟩ : ∃ s, shareR H[q].a H[q].b H[q].c am = s := ⟨_, rfl⟩
    refine (rent_V sb ib v of n ic cap q 0 (H.map hdS) d 0 0 am g0 g1 g2 k0 k1 k2 dy H[q].v H[q].a H[q].b H[q].c _ 0 0 0 0 0 0 _ X Y Z _ _ _ _ _ _ fr ⟨#[]⟩ pu w hnL hl hL s0 s1 s2 s3 s4 s5 s6 s7 x0 x1 x2 vf sf li ls lv nsi nsv niv nic (by omega) (Lib.hid F) (Lib.hid T) (Lib.hid hG) am1 am2 (Lib.hid y1) (Lib.hid rfl) y2 (by omega) (Lib.hid rfl) (Lib.hid hs) (by omega) (by omega) (by omega) (by omega) (by omega) (by omega) (Lib.hid ⟨rfl, rfl, rfl⟩) (Lib.hid ⟨rfl, rfl, rfl⟩)).mono ?_
    rintro e w' ⟨rfl, ⟨hz, hb⟩ | ⟨hz, q0, q1, q2, q3, q4, q5, q6, q7, t0, t1, t2, hV, vf', sf', hD⟩⟩
    · exact EntPost.bad hP hz rfl hb
    · have hR' : stpR ⟨H, g0, g1, g2, k0, k1, k2, dy⟩ ⟨2, d, fr, ⟨#[]⟩, 0, 0, am, pu⟩ = ⟨H.set q (putC H[q] (H[q].a - X) (H[q].b - Y) (H[q].c - Z)), g0, g1, g2, k0 + X, k1 + Y, k2 + Z, d⟩ := by
        unfold stpR frI; dsimp only; rw [if_neg (by decide), if_pos rfl, F, hdAt_q hq, hs]; unfold outR; rw [Int.toNat_natCast]
      refine ⟨by rw [hP], fun _ => ?_, hD, fun h => absurd (hP.trans hz) h⟩
      rw [hR']
      exact ⟨q0, q1, q2, q3, q4, q5, q6, q7, sf', vf', Nat.lt_of_lt_of_le ls hD.size, Nat.lt_of_lt_of_le li hD.size, nsi, by simpa using hn, nic, ct_set hR hq t0 t1 t2 hV⟩
theorem ent_mov (sb ib v of n ic cap c : Nat) (H : List Hd) (g0 g1 g2 k0 k1 k2 dy d am : Int) (fr tz : ByteArray) (pu : Bool) (w : World) (hl : n ≤ 1000000) (hs : StAt w sb ib n ic ⟨H, g0, g1, g2, k0, k1, k2, dy⟩) (hok : RmOk ⟨H, g0, g1, g2, k0, k1, k2, dy⟩ c) (hc : c ≤ 800) (hv : RowsAt veV 3 w v of (H.map hdS)) (lv : v < w.heap.size) (nsv : sb ≠ v) (niv : ib ≠ v) (ha : alnE 1 d fr tz 0 0 am pu = 0) : Calls Try.prog 72 #[.slice (some ⟨v, of, none⟩) n cap, .pointer (some ⟨sb, 0, none⟩), .agg #[.int .i64 1, .int .i64 d, .string fr, .string tz, .int .i64 0, .int .i64 0, .int .i64 am, .bool pu]] w (EntPost sb ib n ic ⟨H, g0, g1, g2, k0, k1, k2, dy⟩ ⟨1, d, fr, tz, 0, 0, am, pu⟩ w) := by
  obtain ⟨s0, s1, s2, s3, s4, s5, s6, s7, sf, vf, ls, li, nsi, hn, nic, hR⟩ := hs
  obtain ⟨hh, b0, b1, b2, b3, b4, b5⟩ := hok
  dsimp only at s0 s1 s2 s3 s4 s5 s6 s7 hn hR hh b0 b1 b2 b3 b4 b5
  obtain ⟨hk, am1, am2, hG, hz, hf, ht, hd, d0, d1⟩ := aln_ok ha
  have hL : Hid (SlRows veV 3 w (some ⟨v, of, none⟩) (H.map hdS)) := Lib.hid (Or.inr ⟨v, of, rfl, lv, hv⟩)
  have hnL : Hid (n = (H.map hdS).length) := Lib.hid (by rw [List.length_map]; exact hn)
  rcases fnd_two fr H with F | ⟨p, hp, F, hnp⟩
  · have hP : posF ⟨H, g0, g1, g2, k0, k1, k2, dy⟩ ⟨1, d, fr, tz, 0, 0, am, pu⟩ = 6 := by
      unfold posF frI; dsimp only; rw [F, if_pos (Or.inl ⟨by decide, by decide⟩)]
    refine (rent_m1a sb n cap 0 _ (H.map hdS) d 0 0 am _ fr tz pu w hnL hl hL (Lib.hid F) (Lib.hid rfl)).mono ?_
    rintro e w' ⟨rfl, hb⟩
    exact EntPost.bad hP (by decide) rfl hb
  rcases fnd_two tz H with T | ⟨q, hq, T, hnm⟩
  · have hP : posF ⟨H, g0, g1, g2, k0, k1, k2, dy⟩ ⟨1, d, fr, tz, 0, 0, am, pu⟩ = 6 := by
      unfold posF tzI; dsimp only; rw [T, if_pos (Or.inr ⟨by decide, by decide⟩)]
    refine (rent_m1b sb n cap p _ (H.map hdS) d 0 0 am 0 fr tz pu w hnL hl hL (Lib.hid F) (Lib.hid T)).mono ?_
    rintro e w' ⟨rfl, hb⟩
    exact EntPost.bad hP (by decide) rfl hb
  obtain ⟨x0, x1, x2⟩ := ct_at hR hp
  obtain ⟨z0, z1, z2⟩ := ct_at hR hq
  obtain ⟨y0, y1, y2, y3, y4, y5⟩ := hh _ (List.getElem_mem hp)
  obtain ⟨v0, v1, v2, v3, v4, v5⟩ := hh _ (List.getElem_mem hq)
  have ve := ve_at hv (k := p) (by simpa using hp)
  have vf2 := ve_at hv (k := q) (by simpa using hq)
  simp only [List.getElem_map] at ve vf2
  have hne : p ≠ q := by
    intro e; subst e
    exact hd rfl (by rw [← hnp, ← hnm])
  have hP : posF ⟨H, g0, g1, g2, k0, k1, k2, dy⟩ ⟨1, d, fr, tz, 0, 0, am, pu⟩ = pos1 d dy am pu (H[p].a + H[p].b + H[p].c) H[p].v (H[q].a + H[q].b + H[q].c) H[q].v H[q].m := by
    unfold posF frI tzI; dsimp only; rw [F, T, if_neg (by rintro (⟨h, _⟩ | ⟨h, _⟩) <;> omega), if_neg (by decide), if_neg (by decide), hdAt_q hp, hdAt_q hq]; rfl
  obtain ⟨⟨X, Y, Z⟩, hs⟩ : ∃ s, shareR H[p].a H[p].b H[p].c am = s := ⟨_, rfl⟩
  have hend : ∀ e w', (e = .returned (.int .i64 (pos1 d dy am pu (H[p].a + H[p].b + H[p].c) H[p].v (H[q].a + H[q].b + H[q].c) H[q].v H[q].m)) ∧ ((¬ pos1 d dy am pu (H[p].a + H[p].b + H[p].c) H[p].v (H[q].a + H[q].b + H[q].c) H[q].v H[q].m = 0 ∧ Below w.heap.size w w') ∨ (pos1 d dy am pu (H[p].a + H[p].b + H[p].c) H[p].v (H[q].a + H[q].b + H[q].c) H[q].v H[q].m = 0 ∧ w'.cell? ⟨sb, 0, none⟩ = some (.slice (some ⟨ib, 0, none⟩) n ic) ∧ w'.cell? ⟨sb, 1, none⟩ = some (.int .i64 g0) ∧ w'.cell? ⟨sb, 2, none⟩ = some (.int .i64 g1) ∧ w'.cell? ⟨sb, 3, none⟩ = some (.int .i64 g2) ∧ w'.cell? ⟨sb, 4, none⟩ = some (.int .i64 k0) ∧ w'.cell? ⟨sb, 5, none⟩ = some (.int .i64 k1) ∧ w'.cell? ⟨sb, 6, none⟩ = some (.int .i64 k2) ∧ w'.cell? ⟨sb, 7, none⟩ = some (.int .i64 d) ∧ w'.cell? ⟨ib, p * 3, none⟩ = some (.int .i64 (H[p].a - X)) ∧ w'.cell? ⟨ib, p * 3 + 1, none⟩ = some (.int .i64 (H[p].b - Y)) ∧ w'.cell? ⟨ib, p * 3 + 2, none⟩ = some (.int .i64 (H[p].c - Z)) ∧ w'.cell? ⟨ib, q * 3, none⟩ = some (.int .i64 (H[q].a + X)) ∧ w'.cell? ⟨ib, q * 3 + 1, none⟩ = some (.int .i64 (H[q].b + Y)) ∧ w'.cell? ⟨ib, q * 3 + 2, none⟩ = some (.int .i64 (H[q].c + Z)) ∧ (∀ j, j ≠ p * 3 → j ≠ p * 3 + 1 → j ≠ p * 3 + 2 → j ≠ q * 3 → j ≠ q * 3 + 1 → j ≠ q * 3 + 2 → w'.cell? ⟨ib, j, none⟩ = w.cell? ⟨ib, j, none⟩) ∧ (∀ j, w'.frozen? ⟨ib, j, none⟩ = false) ∧ (∀ j, w'.frozen? ⟨sb, j, none⟩ = false) ∧ BelowD sb ib w.heap.size w w'))) → EntPost sb ib n ic ⟨H, g0, g1, g2, k0, k1, k2, dy⟩ ⟨1, d, fr, tz, 0, 0, am, pu⟩ w e w' := by
    rintro e w' ⟨rfl, ⟨hz, hb⟩ | ⟨hz, q0, q1, q2, q3, q4, q5, q6, q7, t0, t1, t2, t3, t4, t5, hV, vf', sf', hD⟩⟩
    · exact EntPost.bad hP hz rfl hb
    · have hR' : stpR ⟨H, g0, g1, g2, k0, k1, k2, dy⟩ ⟨1, d, fr, tz, 0, 0, am, pu⟩ = ⟨(H.set p (putC H[p] (H[p].a - X) (H[p].b - Y) (H[p].c - Z))).set q (putC H[q] (H[q].a + X) (H[q].b + Y) (H[q].c + Z)), g0, g1, g2, k0, k1, k2, d⟩ := by
        unfold stpR frI tzI; dsimp only; rw [if_neg (by decide), if_neg (by decide), F, T, hdAt_q hp, hdAt_q hq, hs]; unfold movR; rw [Int.toNat_natCast, Int.toNat_natCast]
      refine ⟨by rw [hP], fun _ => ?_, hD, fun h => absurd (hP.trans hz) h⟩
      rw [hR']
      exact ⟨q0, q1, q2, q3, q4, q5, q6, q7, sf', vf', Nat.lt_of_lt_of_le ls hD.size, Nat.lt_of_lt_of_le li hD.size, nsi, by simpa using hn, nic, ct_set2 hR hp hq hne t0 t1 t2 t3 t4 t5 hV⟩
  cases pu with
  | true => exact (rent_Mt sb ib v of n ic cap p q (H.map hdS) d 0 0 am g0 g1 g2 k0 k1 k2 dy H[p].v H[p].a H[p].b H[p].c _ H[q].v H[q].m H[q].a H[q].b H[q].c _ _ X Y Z _ _ _ _ _ _ fr tz true w hnL hl hL s0 s1 s2 s3 s4 s5 s6 s7 x0 x1 x2 z0 z1 z2 ve.2.1 vf2.2.1 vf2.2.2 vf sf li ls lv nsi nsv niv nic (by omega) (Lib.hid F) (by omega) (Lib.hid T) (Lib.hid hG) am1 am2 (Lib.hid y1) (Lib.hid rfl) y2 (by omega) (Lib.hid v1) (Lib.hid rfl) v2 (by omega) v4 (by omega) (Lib.hid rfl) (Lib.hid hs) (Lib.hid ⟨rfl, rfl, rfl⟩) (Lib.hid ⟨rfl, rfl, rfl⟩) hne).mono hend
  | false => exact (rent_Mf sb ib v of n ic cap p q (H.map hdS) d 0 0 am g0 g1 g2 k0 k1 k2 dy H[p].v H[p].a H[p].b H[p].c _ H[q].v H[q].m H[q].a H[q].b H[q].c _ _ X Y Z _ _ _ _ _ _ fr tz false w hnL hl hL s0 s1 s2 s3 s4 s5 s6 s7 x0 x1 x2 z0 z1 z2 ve.2.1 vf2.2.1 vf2.2.2 vf sf li ls lv nsi nsv niv nic (by omega) (Lib.hid F) (by omega) (Lib.hid T) (Lib.hid hG) am1 am2 (Lib.hid y1) (Lib.hid rfl) y2 (by omega) (Lib.hid v1) (Lib.hid rfl) v2 (by omega) v4 (by omega) (Lib.hid rfl) (Lib.hid hs) (Lib.hid ⟨rfl, rfl, rfl⟩) (Lib.hid ⟨rfl, rfl, rfl⟩) hne).mono hend
theorem enter_any (sb ib v of n ic cap c : Nat) (r : Rm) (x : Fl) (w : World) (hl : n ≤ 1000000) (hs : StAt w sb ib n ic r) (hok : RmOk r c) (hc : c ≤ 800) (hv : RowsAt veV 3 w v of (r.H.map hdS)) (lv : v < w.heap.size) (nsv : sb ≠ v) (niv : ib ≠ v) (ha : alnF x = 0) : Calls Try.prog 72 #[.slice (some ⟨v, of, none⟩) n cap, .pointer (some ⟨sb, 0, none⟩), .agg #[.int .i64 x.k, .int .i64 x.d, .string x.fr, .string x.tz, .int .i64 x.o, .int .i64 x.h, .int .i64 x.am, .bool x.pu]] w (EntPost sb ib n ic r x w) := by
  obtain ⟨k, d, fr, tz, o, h, am, pu⟩ := x
  obtain ⟨H, g0, g1, g2, k0, k1, k2, dy⟩ := r
  have ha : alnE k d fr tz o h am pu = 0 := ha
  obtain ⟨hk, am1, am2, hG, hz, hf, ht, hd, d0, d1⟩ := aln_ok ha
  rcases hk with rfl | rfl | rfl
  · obtain rfl := emp_of (hf rfl)
    exact ent_in sb ib v of n ic cap c H g0 g1 g2 k0 k1 k2 dy d o h am tz pu w hl hs hok hc hv lv nsv niv ha
  · rcases hz with hz | ⟨rfl, rfl⟩
    · omega
    exact ent_mov sb ib v of n ic cap c H g0 g1 g2 k0 k1 k2 dy d am fr tz pu w hl hs hok hc hv lv nsv niv ha
  · rcases hz with hz | ⟨rfl, rfl⟩
    · omega
    obtain rfl := emp_of (ht rfl)
    exact ent_out sb ib v of n ic cap c H g0 g1 g2 k0 k1 k2 dy d am fr pu w hl hs hok hc hv lv nsv niv ha
end Go.Proofs.Ytjkhjjmmkdfjmaa
