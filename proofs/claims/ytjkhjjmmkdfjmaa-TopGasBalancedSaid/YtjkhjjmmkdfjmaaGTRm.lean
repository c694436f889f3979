import Derived.Test.YtjkhjjmmkdfjmaaGTFShare2
import Derived.Test.YtjkhjjmmkdfjmaaGTAdd0
import Derived.Outline
namespace Go.Proofs.Ytjkhjjmmkdfjmaa
set_option linter.unusedVariables false
/-- As shr, with -1 in place of what has been given. -/
def shq : Nat → Int → Int → Int → Int → Int → Int → Int × Int × Int
  | 0, x, y, z, _, _, _ => (x, y, z)
  | k + 1, x, y, z, r, s, t => if s ≤ r ∧ t ≤ r then shq k (x + 1) y z (-1) s t else if t ≤ s then shq k x (y + 1) z r (-1) t else shq k x y (z + 1) r s (-1)
theorem shq_shr {K : Nat} (x y z : Int) {r s t S : Int} (hK : K ≤ 2) (r0 : 0 ≤ r) (r1 : r < S) (s0 : 0 ≤ s) (s1 : s < S) (t0 : 0 ≤ t) (t1 : t < S) (hs : r + s + t = S * K) : shq K x y z r s t = shr K x y z r s t := by
  rcases K with _ | _ | _ | K
  · rfl
  · simp only [shq, shr]
  · simp only [shq, shr]
    have e : S * ((0 + 1 + 1 : Nat) : Int) = S * 2 := rfl
    rw [e] at hs
    repeat' split
    all_goals first | rfl | (exfalso; omega)
  · omega
theorem shr_props {K : Nat} {x y z r s t S X Y Z : Int} (hK : K ≤ 2) (r0 : 0 ≤ r) (r1 : r < S) (s0 : 0 ≤ s) (s1 : s < S) (t0 : 0 ≤ t) (t1 : t < S) (hs : r + s + t = S * K) (h : shr K x y z r s t = (X, Y, Z)) :
    (0 ≤ X - x ∧ X - x ≤ 1 ∧ (X - x = 1 → 0 < r)) ∧ (0 ≤ Y - y ∧ Y - y ≤ 1 ∧ (Y - y = 1 → 0 < s)) ∧ (0 ≤ Z - z ∧ Z - z ≤ 1 ∧ (Z - z = 1 → 0 < t)) ∧ (X - x) + (Y - y) + (Z - z) = K := by
  rcases K with _ | _ | _ | K
  · simp only [shr, Prod.mk.injEq] at h
    obtain ⟨rfl, rfl, rfl⟩ := h
    simp
  · simp only [shr] at h
    have e : S * ((0 + 1 : Nat) : Int) = S * 1 := rfl
    rw [e] at hs
    repeat' split at h
    all_goals
      simp only [Prod.mk.injEq] at h
      obtain ⟨rfl, rfl, rfl⟩ := h
      refine ⟨⟨?_, ?_, ?_⟩, ⟨?_, ?_, ?_⟩, ⟨?_, ?_, ?_⟩, ?_⟩
      all_goals first | omega | (intro _; omega) | (simp; omega)
  · simp only [shr] at h
    have e : S * ((0 + 1 + 1 : Nat) : Int) = S * 2 := rfl
    rw [e] at hs
    repeat' split at h
    all_goals
      simp only [Prod.mk.injEq] at h
      obtain ⟨rfl, rfl, rfl⟩ := h
      refine ⟨⟨?_, ?_, ?_⟩, ⟨?_, ?_, ?_⟩, ⟨?_, ?_, ?_⟩, ?_⟩
      all_goals first | omega | (intro _; omega) | (simp; omega)
  · omega
/-- One part of a share: rounded down, or one more where something is left over. -/
theorem part_ok {a m S X : Int} (a0 : 0 ≤ a) (m0 : 0 ≤ m) (m1 : m ≤ S) (s0 : 0 < S) (h : 0 ≤ X - a * m / S ∧ X - a * m / S ≤ 1 ∧ (X - a * m / S = 1 → 0 < a * m % S)) : 0 ≤ X ∧ X ≤ a ∧ -S ≤ X * S - a * m ∧ X * S - a * m ≤ S := by
  have p0 : 0 ≤ a * m := Int.mul_nonneg a0 m0
  have p1 : a * m ≤ a * S := Int.mul_le_mul_of_nonneg_left m1 a0
  have e := Int.mul_ediv_add_emod (a * m) S
  have r0 := Int.emod_nonneg (a * m) (show S ≠ 0 by omega)
  have r1 := Int.emod_lt_of_pos (a * m) s0
  have q0 : 0 ≤ a * m / S := Int.ediv_nonneg p0 (by omega)
  generalize a * m / S = q at *
  generalize a * m % S = r at *
  generalize a * m = P at *
  obtain ⟨h0, h1, h2⟩ := h
  have hX : X = q ∨ X = q + 1 := by omega
  have e' : q * S = S * q := Int.mul_comm _ _
  rcases hX with rfl | rfl
  · refine ⟨by omega, ?_, by omega, by omega⟩
    refine Int.not_lt.1 fun hl => ?_
    have := Int.mul_le_mul_of_nonneg_left (show a + 1 ≤ X by omega) (show 0 ≤ S by omega)
    have e2 : S * (a + 1) = a * S + S := by rw [Int.mul_add, Int.mul_comm S a]; omega
    omega
  · have g := h2 (by omega)
    have e3 : (q + 1) * S = S * q + S := by rw [Int.add_mul, Int.mul_comm q S]; omega
    refine ⟨by omega, ?_, by omega, by omega⟩
    refine Int.not_lt.1 fun hl => ?_
    have := Int.mul_le_mul_of_nonneg_left (show a ≤ q by omega) (show 0 ≤ S by omega)
    have e2 : S * a = a * S := Int.mul_comm _ _
    omega
theorem emod_bd (P : Int) {S : Int} (s0 : 0 < S) : 0 ≤ P % S ∧ P % S < S := ⟨Int.emod_nonneg _ (by omega), Int.emod_lt_of_pos _ s0⟩
theorem share_ok {a b c m X Y Z : Int} (hc : conB a b c = true) (m0 : 0 ≤ m) (m1 : m ≤ a + b + c) (h : shareR a b c m = (X, Y, Z)) :
    X + Y + Z = m ∧ (0 ≤ X ∧ X ≤ a ∧ -(a + b + c) ≤ X * (a + b + c) - a * m ∧ X * (a + b + c) - a * m ≤ a + b + c) ∧ (0 ≤ Y ∧ Y ≤ b ∧ -(a + b + c) ≤ Y * (a + b + c) - b * m ∧ Y * (a + b + c) - b * m ≤ a + b + c) ∧ (0 ≤ Z ∧ Z ≤ c ∧ -(a + b + c) ≤ Z * (a + b + c) - c * m ∧ Z * (a + b + c) - c * m ≤ a + b + c) := by
  obtain ⟨a0, b0, c0, _⟩ := conB_iff.1 hc
  unfold shareR at h
  by_cases hz : a + b + c = 0
  · rw [if_pos hz] at h
    obtain rfl : a = 0 := by omega
    obtain rfl : b = 0 := by omega
    obtain rfl : c = 0 := by omega
    obtain rfl : m = 0 := by omega
    simp only [Prod.mk.injEq] at h
    obtain ⟨rfl, rfl, rfl⟩ := h
    simp
  · rw [if_neg hz] at h
    have s0 : 0 < a + b + c := by omega
    obtain ⟨k0, k1, k2⟩ := miss_bd a0 b0 c0 s0 m0
    obtain ⟨K, hK⟩ := Int.eq_ofNat_of_zero_le k0
    rw [hK] at h k1 k2
    have ea := emod_bd (a * m) s0
    have eb := emod_bd (b * m) s0
    have ec := emod_bd (c * m) s0
    obtain ⟨p1, p2, p3, p4⟩ := shr_props (by omega) ea.1 ea.2 eb.1 eb.2 ec.1 ec.2 k2 (by simpa using h)
    exact ⟨by omega, part_ok a0 m0 m1 s0 p1, part_ok b0 m0 m1 s0 p2, part_ok c0 m0 m1 s0 p3⟩
end Go.Proofs.Ytjkhjjmmkdfjmaa

namespace Go.Proofs.Ytjkhjjmmkdfjmaa
open Go.ChangeShapes Go.WideShapes Go.ChangeAt Go.RowKit
set_option linter.unusedVariables false
set_option linter.unusedSimpArgs false
/-- A fill. -/
structure Fl where
  k : Int
  d : Int
  fr : ByteArray
  tz : ByteArray
  o : Int
  h : Int
  am : Int
  pu : Bool
instance : Inhabited Fl := ⟨⟨0, 0, ⟨#[]⟩, ⟨#[]⟩, 0, 0, 0, false⟩⟩
def flV (x : Fl) : List Value := [.int .i64 x.k, .int .i64 x.d, .string x.fr, .string x.tz, .int .i64 x.o, .int .i64 x.h, .int .i64 x.am, .bool x.pu]
/-- A room: the vessels, what came in, what was vented, the day. -/
structure Rm where
  H : List Hd
  g0 : Int
  g1 : Int
  g2 : Int
  k0 : Int
  k1 : Int
  k2 : Int
  dy : Int
def hdAt (H : List Hd) (i : Int) : Hd := H.getD i.toNat default
theorem hdAt_q {H : List Hd} {q : Nat} (h : q < H.length) : hdAt H (q : Int) = H[q] := by
  unfold hdAt
  rw [Int.toNat_natCast, List.getD_eq_getElem?_getD, List.getElem?_eq_getElem h]
  rfl
def hdSum (g : Hd) : Int := g.a + g.b + g.c
def putC (g : Hd) (a b c : Int) : Hd := ⟨g.nm, g.v, g.m, a, b, c⟩
def alnF (x : Fl) : Int := alnE x.k x.d x.fr x.tz x.o x.h x.am x.pu
def frI (r : Rm) (x : Fl) : Int := fndV x.fr (r.H.map hdS)
def tzI (r : Rm) (x : Fl) : Int := fndV x.tz (r.H.map hdS)
def posF (r : Rm) (x : Fl) : Int :=
  if (frI r x < 0 ∧ x.k ≠ 0) ∨ (tzI r x < 0 ∧ x.k ≠ 2) then 6
  else if x.k = 0 then pos0 x.d r.dy x.am (hdSum (hdAt r.H (tzI r x))) (hdAt r.H (tzI r x)).v (hdAt r.H (tzI r x)).m
  else if x.k = 2 then pos2 x.d r.dy x.am (hdSum (hdAt r.H (frI r x)))
  else pos1 x.d r.dy x.am x.pu (hdSum (hdAt r.H (frI r x))) (hdAt r.H (frI r x)).v (hdSum (hdAt r.H (tzI r x))) (hdAt r.H (tzI r x)).v (hdAt r.H (tzI r x)).m
/-- The error of a fill in a room. -/
def stpE (r : Rm) (x : Fl) : Int := if alnF x = 0 then posF r x else alnF x
def inR (r : Rm) (j : Int) (B : Hd) (X Y Z d : Int) : Rm := ⟨r.H.set j.toNat (putC B (B.a + X) (B.b + Y) (B.c + Z)), r.g0 + X, r.g1 + Y, r.g2 + Z, r.k0, r.k1, r.k2, d⟩
def outR (r : Rm) (i : Int) (A : Hd) (s : Int × Int × Int) (d : Int) : Rm := ⟨r.H.set i.toNat (putC A (A.a - s.1) (A.b - s.2.1) (A.c - s.2.2)), r.g0, r.g1, r.g2, r.k0 + s.1, r.k1 + s.2.1, r.k2 + s.2.2, d⟩
def movR (r : Rm) (i j : Int) (A B : Hd) (s : Int × Int × Int) (d : Int) : Rm := ⟨(r.H.set i.toNat (putC A (A.a - s.1) (A.b - s.2.1) (A.c - s.2.2))).set j.toNat (putC B (B.a + s.1) (B.b + s.2.1) (B.c + s.2.2)), r.g0, r.g1, r.g2, r.k0, r.k1, r.k2, d⟩
/-- The room behind a fill that may happen. -/
def stpR (r : Rm) (x : Fl) : Rm :=
  if x.k = 0 then inR r (tzI r x) (hdAt r.H (tzI r x)) (x.am * x.o / 1000) (x.am * x.h / 1000) (x.am - (x.am * x.o / 1000 + x.am * x.h / 1000)) x.d
  else if x.k = 2 then outR r (frI r x) (hdAt r.H (frI r x)) (shareR (hdAt r.H (frI r x)).a (hdAt r.H (frI r x)).b (hdAt r.H (frI r x)).c x.am) x.d
  else movR r (frI r x) (tzI r x) (hdAt r.H (frI r x)) (hdAt r.H (tzI r x)) (shareR (hdAt r.H (frI r x)).a (hdAt r.H (frI r x)).b (hdAt r.H (frI r x)).c x.am) x.d
def HdOk (g : Hd) : Prop := g.nm.size ≠ 0 ∧ conB g.a g.b g.c = true ∧ 1 ≤ g.v ∧ g.v ≤ 1000000 ∧ 1 ≤ g.m ∧ g.m ≤ 400000
/-- A room as it comes out of right fills. -/
structure RmOk (r : Rm) (c : Nat) : Prop where
  hd : ∀ g ∈ r.H, HdOk g
  g0 : 0 ≤ r.g0 ∧ r.g0 ≤ c * 1000000000
  g1 : 0 ≤ r.g1 ∧ r.g1 ≤ c * 1000000000
  g2 : 0 ≤ r.g2 ∧ r.g2 ≤ c * 1000000000
  k0 : 0 ≤ r.k0 ∧ r.k0 ≤ c * 1000000000
  k1 : 0 ≤ r.k1 ∧ r.k1 ≤ c * 1000000000
  k2 : 0 ≤ r.k2 ∧ r.k2 ≤ c * 1000000000
theorem aln_ok {k d o h am : Int} {fr tz : ByteArray} {pu : Bool} (e : alnE k d fr tz o h am pu = 0) : (k = 0 ∨ k = 1 ∨ k = 2) ∧ 1 ≤ am ∧ am ≤ 1000000000 ∧ gasE o h = 0 ∧ (k = 0 ∨ o = 0 ∧ h = 0) ∧ (k = 0 → fr.size = 0) ∧ (k = 2 → tz.size = 0) ∧ (k = 1 → fr.data ≠ tz.data) ∧ 0 ≤ d ∧ d ≤ 100000 := by
  unfold alnE at e
  by_cases h1 : k = 0 ∨ k = 1 ∨ k = 2
  · rw [if_pos h1] at e
    by_cases h2 : inB d 0 100000 = true ∧ inB am 1 1000000000 = true
    · rw [if_pos h2] at e
      by_cases h3 : gasE o h = 0 ∧ (k = 0 ∨ o = 0 ∧ h = 0)
      · rw [if_pos h3] at e
        by_cases h4 : (k = 0 ∧ fr.size ≠ 0) ∨ (k = 2 ∧ tz.size ≠ 0) ∨ (k = 1 ∧ fr.data = tz.data) ∨ (pu = true ∧ k ≠ 1)
        · rw [if_pos h4] at e; exact absurd e (by decide)
        · have a1 := inB_iff.1 h2.1
          have a2 := inB_iff.1 h2.2
          refine ⟨h1, a2.1, a2.2, h3.1, h3.2, fun hk => ?_, fun hk => ?_, fun hk hd => h4 (Or.inr (Or.inr (Or.inl ⟨hk, hd⟩))), a1.1, a1.2⟩
          · exact Classical.byContradiction fun hs => h4 (Or.inl ⟨hk, hs⟩)
          · exact Classical.byContradiction fun hs => h4 (Or.inr (Or.inl ⟨hk, hs⟩))
      · rw [if_neg h3] at e; exact absurd e (by decide)
    · rw [if_neg h2] at e; exact absurd e (by decide)
  · rw [if_neg h1] at e; exact absurd e (by decide)
theorem fnd_two (s : ByteArray) (H : List Hd) : (fndV s (H.map hdS) = -1) ∨ ∃ q : Nat, ∃ h : q < H.length, fndV s (H.map hdS) = q ∧ H[q].nm = s := by
  induction H with
  | nil => exact Or.inl rfl
  | cons g r ih =>
    show (fndV s (hdS g :: r.map hdS) = -1) ∨ _
    by_cases e : (hdS g).nm.data = s.data
    · exact Or.inr ⟨0, by simp, by rw [List.map_cons]; unfold fndV; rw [if_pos e]; rfl, baEq e⟩
    · rcases ih with h | ⟨q, hq, h, hn⟩
      · exact Or.inl (by unfold fndV; rw [if_neg e, if_pos (by omega)])
      · refine Or.inr ⟨q + 1, by simpa using hq, ?_, by simpa using hn⟩
        show fndV s (hdS g :: r.map hdS) = _
        unfold fndV
        rw [if_neg e, if_neg (by omega), h]; rfl
theorem fnd_emp {H : List Hd} (h : ∀ g ∈ H, HdOk g) : fndV ⟨#[]⟩ (H.map hdS) = -1 := by
  rcases fnd_two ⟨#[]⟩ H with e | ⟨q, hq, _, hn⟩
  · exact e
  · exact absurd (by rw [hn]; rfl) (h _ (List.getElem_mem hq)).1
/-- Where a room lies. -/
structure RmAt (w : World) (rb vb n cap : Nat) (A : Option Addr) (r : Rm) : Prop where
  r0 : w.cell? ⟨rb, 0, none⟩ = some (.slice A n cap)
  r1 : w.cell? ⟨rb, 1, none⟩ = some (.int .i64 r.g0)
  r2 : w.cell? ⟨rb, 2, none⟩ = some (.int .i64 r.g1)
  r3 : w.cell? ⟨rb, 3, none⟩ = some (.int .i64 r.g2)
  r4 : w.cell? ⟨rb, 4, none⟩ = some (.int .i64 r.k0)
  r5 : w.cell? ⟨rb, 5, none⟩ = some (.int .i64 r.k1)
  r6 : w.cell? ⟨rb, 6, none⟩ = some (.int .i64 r.k2)
  r7 : w.cell? ⟨rb, 7, none⟩ = some (.int .i64 r.dy)
  rf : ∀ j, w.frozen? ⟨rb, j, none⟩ = false
  lr : rb < w.heap.size
  hn : n = r.H.length
  hl : n ≤ 1000
  vs : r.H = [] ∨ (A = some ⟨vb, 0, none⟩ ∧ vb < w.heap.size ∧ rb ≠ vb ∧ RowsAt hdV 6 w vb 0 r.H ∧ ∀ j, w.frozen? ⟨vb, j, none⟩ = false)
theorem rows_set {w w' : World} {vb j : Nat} {H : List Hd} {a b c : Int} (hR : RowsAt hdV 6 w vb 0 H) (hj : j < H.length) (c0 : w'.cell? ⟨vb, j * 6 + 3, none⟩ = some (.int .i64 a)) (c1 : w'.cell? ⟨vb, j * 6 + 4, none⟩ = some (.int .i64 b)) (c2 : w'.cell? ⟨vb, j * 6 + 5, none⟩ = some (.int .i64 c)) (hV : ∀ q, q ≠ j * 6 + 3 → q ≠ j * 6 + 4 → q ≠ j * 6 + 5 → w'.cell? ⟨vb, q, none⟩ = w.cell? ⟨vb, q, none⟩) : RowsAt hdV 6 w' vb 0 (H.set j (putC H[j] a b c)) := by
  intro k hk i hi
  have hk' : k < H.length := by simpa using hk
  rw [List.getElem_set]
  by_cases e : j = k
  · subst e
    rw [if_pos rfl]
    rcases (show i = 0 ∨ i = 1 ∨ i = 2 ∨ i = 3 ∨ i = 4 ∨ i = 5 by omega) with rfl | rfl | rfl | rfl | rfl | rfl
    · rw [hV _ (by omega) (by omega) (by omega), hR j hk' 0 (by omega)]; rfl
    · rw [hV _ (by omega) (by omega) (by omega), hR j hk' 1 (by omega)]; rfl
    · rw [hV _ (by omega) (by omega) (by omega), hR j hk' 2 (by omega)]; rfl
    · rw [Nat.zero_add, c0]; rfl
    · rw [Nat.zero_add, c1]; rfl
    · rw [Nat.zero_add, c2]; rfl
  · rw [if_neg e, hV _ (by omega) (by omega) (by omega), hR k hk' i hi]
theorem rows_set2 {w w' : World} {vb p j : Nat} {H : List Hd} {a b c x y z : Int} (hR : RowsAt hdV 6 w vb 0 H) (hp : p < H.length) (hj : j < H.length) (hne : p ≠ j) (d0 : w'.cell? ⟨vb, p * 6 + 3, none⟩ = some (.int .i64 x)) (d1 : w'.cell? ⟨vb, p * 6 + 4, none⟩ = some (.int .i64 y)) (d2 : w'.cell? ⟨vb, p * 6 + 5, none⟩ = some (.int .i64 z)) (c0 : w'.cell? ⟨vb, j * 6 + 3, none⟩ = some (.int .i64 a)) (c1 : w'.cell? ⟨vb, j * 6 + 4, none⟩ = some (.int .i64 b)) (c2 : w'.cell? ⟨vb, j * 6 + 5, none⟩ = some (.int .i64 c)) (hV : ∀ q, q ≠ p * 6 + 3 → q ≠ p * 6 + 4 → q ≠ p * 6 + 5 → q ≠ j * 6 + 3 → q ≠ j * 6 + 4 → q ≠ j * 6 + 5 → w'.cell? ⟨vb, q, none⟩ = w.cell? ⟨vb, q, none⟩) : RowsAt hdV 6 w' vb 0 ((H.set p (putC H[p] x y z)).set j (putC H[j] a b c)) := by
  intro k hk i hi
  have hk' : k < H.length := by simpa using hk
  rw [List.getElem_set]
  by_cases e : j = k
  · subst e
    rw [if_pos rfl]
    rcases (show i = 0 ∨ i = 1 ∨ i = 2 ∨ i = 3 ∨ i = 4 ∨ i = 5 by omega) with rfl | rfl | rfl | rfl | rfl | rfl
    · rw [hV _ (by omega) (by omega) (by omega) (by omega) (by omega) (by omega), hR j hk' 0 (by omega)]; rfl
    · rw [hV _ (by omega) (by omega) (by omega) (by omega) (by omega) (by omega), hR j hk' 1 (by omega)]; rfl
    · rw [hV _ (by omega) (by omega) (by omega) (by omega) (by omega) (by omega), hR j hk' 2 (by omega)]; rfl
    · rw [Nat.zero_add, c0]; rfl
    · rw [Nat.zero_add, c1]; rfl
    · rw [Nat.zero_add, c2]; rfl
  · rw [if_neg e, List.getElem_set]
    by_cases e2 : p = k
    · subst e2
      rw [if_pos rfl]
      rcases (show i = 0 ∨ i = 1 ∨ i = 2 ∨ i = 3 ∨ i = 4 ∨ i = 5 by omega) with rfl | rfl | rfl | rfl | rfl | rfl
      · rw [hV _ (by omega) (by omega) (by omega) (by omega) (by omega) (by omega), hR p hk' 0 (by omega)]; rfl
      · rw [hV _ (by omega) (by omega) (by omega) (by omega) (by omega) (by omega), hR p hk' 1 (by omega)]; rfl
      · rw [hV _ (by omega) (by omega) (by omega) (by omega) (by omega) (by omega), hR p hk' 2 (by omega)]; rfl
      · rw [Nat.zero_add, d0]; rfl
      · rw [Nat.zero_add, d1]; rfl
      · rw [Nat.zero_add, d2]; rfl
    · rw [if_neg e2, hV _ (by omega) (by omega) (by omega) (by omega) (by omega) (by omega), hR k hk' i hi]
theorem mem_set_ok {H : List Hd} {j : Nat} {g : Hd} (h : ∀ g ∈ H, HdOk g) (hg : HdOk g) : ∀ x ∈ H.set j g, HdOk x := fun x hx => by
  rcases List.mem_or_eq_of_mem_set hx with h1 | h1
  · exact h x h1
  · rw [h1]; exact hg
end Go.Proofs.Ytjkhjjmmkdfjmaa
