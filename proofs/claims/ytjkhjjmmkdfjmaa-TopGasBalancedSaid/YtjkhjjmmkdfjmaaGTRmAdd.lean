import Derived.Test.YtjkhjjmmkdfjmaaGTRm
import Derived.Test.YtjkhjjmmkdfjmaaGTAddI
import Derived.Test.YtjkhjjmmkdfjmaaGTAddV
import Derived.Test.YtjkhjjmmkdfjmaaGTAddM
import Derived.Outline
namespace Go.Proofs.Ytjkhjjmmkdfjmaa
open Go.ChangeShapes Go.WideShapes Go.ChangeAt Go.RowKit
set_option linter.unusedVariables false
set_option linter.unusedSimpArgs false
theorem pos_room {mo vo S am : Int} (h : ¬ mo * vo < 1000 * (S + am)) (v1 : 1 ≤ vo) (v2 : vo ≤ 1000000) (m1 : 1 ≤ mo) (m2 : mo ≤ 400000) : S + am ≤ 1000000000 := by
  have : mo * vo ≤ 400000 * 1000000 := Int.mul_le_mul m2 v2 (by omega) (by omega)
  omega
theorem pos0_z {d dy am S vo mo : Int} (h : pos0 d dy am S vo mo = 0) : ¬ mo * vo < 1000 * (S + am) := by
  unfold pos0 at h
  split at h
  · omega
  · split at h
    · omega
    · assumption
theorem pos2_z {d dy am S : Int} (h : pos2 d dy am S = 0) : am ≤ S := by
  unfold pos2 at h
  split at h
  · omega
  · split at h
    · omega
    · omega
theorem pos1_z {d dy am A va B vo mo : Int} {pu : Bool} (h : pos1 d dy am pu A va B vo mo = 0) : am ≤ A ∧ ¬ mo * vo < 1000 * (B + am) := by
  unfold pos1 at h
  split at h
  · omega
  · split at h
    · omega
    · split at h
      · omega
      · exact ⟨by omega, by assumption⟩
/-- What add makes of a room. -/
def AddPost (rb vb n cap : Nat) (A : Option Addr) (r : Rm) (x : Fl) (c : Nat) (w : World) (e : Ending) (w' : World) : Prop :=
  e = .returned (.int .i64 (stpE r x)) ∧ (stpE r x = 0 → RmAt w' rb vb n cap A (stpR r x) ∧ RmOk (stpR r x) (c + 1)) ∧ BelowD rb vb w.heap.size w w'
theorem AddPost.bad {rb vb n cap : Nat} {A : Option Addr} {r : Rm} {x : Fl} {c : Nat} {w w' : World} {E : Int} {e : Ending} (hE : stpE r x = E) (hz : ¬ E = 0) (he : e = .returned (.int .i64 E)) (hb : Below w.heap.size w w') : AddPost rb vb n cap A r x c w e w' :=
  ⟨by rw [he, hE], fun h => absurd (hE ▸ h) hz, BelowD.of hb (Nat.le_refl _)⟩
theorem add_in (rb vb n cap c : Nat) (A : Option Addr) (H : List Hd) (g0 g1 g2 k0 k1 k2 dy d o h am : Int) (tz : ByteArray) (pu : Bool) (w : World) (hr : RmAt w rb vb n cap A ⟨H, g0, g1, g2, k0, k1, k2, dy⟩) (hok : RmOk ⟨H, g0, g1, g2, k0, k1, k2, dy⟩ c) (hc : c ≤ 900) (ha : alnE 0 d ⟨#[]⟩ tz o h am pu = 0) : Calls Try.prog 65 #[.pointer (some ⟨rb, 0, none⟩), .agg #[.int .i64 0, .int .i64 d, .string ⟨#[]⟩, .string tz, .int .i64 o, .int .i64 h, .int .i64 am, .bool pu]] w (AddPost rb vb n cap A ⟨H, g0, g1, g2, k0, k1, k2, dy⟩ ⟨0, d, ⟨#[]⟩, tz, o, h, am, pu⟩ c w) := by
  obtain ⟨r0, r1, r2, r3, r4, r5, r6, r7, rf, lr, hn, hl, vs⟩ := hr
  obtain ⟨hh, b0, b1, b2, b3, b4, b5⟩ := hok
  dsimp only at r0 r1 r2 r3 r4 r5 r6 r7 hn vs hh b0 b1 b2 b3 b4 b5
  obtain ⟨hk, am1, am2, hG, hz, hf, ht, hd, d0, d1⟩ := aln_ok ha
  have F := fnd_emp hh
  have hS : stpE ⟨H, g0, g1, g2, k0, k1, k2, dy⟩ ⟨0, d, ⟨#[]⟩, tz, o, h, am, pu⟩ = posF ⟨H, g0, g1, g2, k0, k1, k2, dy⟩ ⟨0, d, ⟨#[]⟩, tz, o, h, am, pu⟩ := if_pos ha
  rcases fnd_two tz H with T | ⟨q, hq, T, hnm⟩
  · have hP : posF ⟨H, g0, g1, g2, k0, k1, k2, dy⟩ ⟨0, d, ⟨#[]⟩, tz, o, h, am, pu⟩ = 6 := by
      unfold posF tzI; dsimp only; rw [T, if_pos (Or.inr ⟨by decide, by decide⟩)]
    rcases vs with rfl | ⟨rfl, lv, nrv, hR, vf⟩
    · refine (add_m0 rb vb n cap A [] d o h am g0 g1 g2 k0 k1 k2 dy ⟨#[]⟩ tz pu w (Lib.hid hn) (by omega) r0 r1 r2 r3 r4 r5 r6 r7 lr (Lib.hid (Or.inl rfl)) (Lib.hid F) (Lib.hid T) (Lib.hid ha)).mono ?_
      rintro e w' ⟨rfl, hb⟩
      exact AddPost.bad (hS.trans hP) (by decide) rfl hb
    · refine (add_m0 rb vb n cap _ H d o h am g0 g1 g2 k0 k1 k2 dy ⟨#[]⟩ tz pu w (Lib.hid hn) (by omega) r0 r1 r2 r3 r4 r5 r6 r7 lr (Lib.hid (Or.inr ⟨vb, rfl, lv, hR⟩)) (Lib.hid F) (Lib.hid T) (Lib.hid ha)).mono ?_
      rintro e w' ⟨rfl, hb⟩
      exact AddPost.bad (hS.trans hP) (by decide) rfl hb
  · rcases vs with rfl | ⟨rfl, lv, nrv, hR, vf⟩
    · simp at hq
    obtain ⟨x0, x1, x2, x3, x4, x5⟩ := hd_at hR hq
    obtain ⟨y0, y1, y2, y3, y4, y5⟩ := hh _ (List.getElem_mem hq)
    have hP : posF ⟨H, g0, g1, g2, k0, k1, k2, dy⟩ ⟨0, d, ⟨#[]⟩, tz, o, h, am, pu⟩ = pos0 d dy am (H[q].a + H[q].b + H[q].c) H[q].v H[q].m := by
      unfold posF frI tzI; dsimp only; rw [F, T, if_neg (by rintro (⟨_, h⟩ | ⟨h, _⟩); exact h rfl; omega), if_pos rfl, hdAt_q hq]; rfl
    refine (add_I rb vb n cap 0 0 q (q * 6) H d o h am g0 g1 g2 k0 k1 k2 dy 0 0 0 0 0 0 H[q].v H[q].m H[q].a H[q].b H[q].c _ _ (am * o / 1000) (am * h / 1000) (am - (am * o / 1000 + am * h / 1000)) _ _ _ _ _ _ ⟨#[]⟩ tz ⟨#[]⟩ H[q].nm pu w (Lib.hid hn) (by omega) r0 r1 r2 r3 r4 r5 r6 r7 x0 x1 x2 x3 x4 x5 vf rf lv lr nrv (Lib.hid hR) (Lib.hid F) (Lib.hid (by omega)) (Lib.hid T) (Lib.hid rfl) (Lib.hid ha) (Lib.hid hG) am1 am2 (Lib.hid y1) (Lib.hid rfl) y2 (by omega) y4 (by omega) (Lib.hid rfl) (Lib.hid fun _ => ⟨rfl, rfl, rfl⟩) (by omega) (by omega) (by omega) (by omega) (by omega) (by omega) (Lib.hid ⟨rfl, rfl, rfl⟩) (Lib.hid ⟨rfl, rfl, rfl⟩)).mono ?_
    rintro e w' ⟨rfl, ⟨hz, hb⟩ | ⟨hz, s0, s1, s2, s3, s4, s5, s6, s7, t0, t1, t2, hV, vf', rf', hD⟩⟩
    · exact AddPost.bad (hS.trans hP) hz rfl hb
    · have hR' : stpR ⟨H, g0, g1, g2, k0, k1, k2, dy⟩ ⟨0, d, ⟨#[]⟩, tz, o, h, am, pu⟩ = ⟨H.set q (putC H[q] (H[q].a + am * o / 1000) (H[q].b + am * h / 1000) (H[q].c + (am - (am * o / 1000 + am * h / 1000)))), g0 + am * o / 1000, g1 + am * h / 1000, g2 + (am - (am * o / 1000 + am * h / 1000)), k0, k1, k2, d⟩ := by
        unfold stpR tzI; dsimp only; rw [if_pos rfl, T, hdAt_q hq]; unfold inR; rw [Int.toNat_natCast]
      refine ⟨by rw [hS, hP], fun _ => ?_, hD⟩
      rw [hR']
      obtain ⟨-, -, -, -, -, -, e1, X0, Y0, Z0, X1, Y1, Z1⟩ := bri_math hG am1 am2 rfl rfl rfl
      have hs := pos_room (pos0_z hz) y2 y3 y4 y5
      have cc := conB_iff.1 y1
      refine ⟨⟨s0, s1, s2, s3, s4, s5, s6, s7, rf', Nat.lt_of_lt_of_le lr hD.size, by simpa using hn, hl, Or.inr ⟨rfl, Nat.lt_of_lt_of_le lv hD.size, nrv, rows_set hR hq t0 t1 t2 hV, vf'⟩⟩, ⟨mem_set_ok hh ⟨y0, conB_iff.2 ⟨?_, ?_, ?_, ?_⟩, y2, y3, y4, y5⟩, ?_, ?_, ?_, ?_, ?_, ?_⟩⟩
      all_goals (try dsimp only [putC]) <;> omega
theorem add_out (rb vb n cap c : Nat) (A : Option Addr) (H : List Hd) (g0 g1 g2 k0 k1 k2 dy d am : Int) (fr : ByteArray) (pu : Bool) (w : World) (hr : RmAt w rb vb n cap A ⟨H, g0, g1, g2, k0, k1, k2, dy⟩) (hok : RmOk ⟨H, g0, g1, g2, k0, k1, k2, dy⟩ c) (hc : c ≤ 900) (ha : alnE 2 d fr ⟨#[]⟩ 0 0 am pu = 0) : Calls Try.prog 65 #[.pointer (some ⟨rb, 0, none⟩), .agg #[.int .i64 2, .int .i64 d, .string fr, .string ⟨#[]⟩, .int .i64 0, .int .i64 0, .int .i64 am, .bool pu]] w (AddPost rb vb n cap A ⟨H, g0, g1, g2, k0, k1, k2, dy⟩ ⟨2, d, fr, ⟨#[]⟩, 0, 0, am, pu⟩ c w) := by
  obtain ⟨r0, r1, r2, r3, r4, r5, r6, r7, rf, lr, hn, hl, vs⟩ := hr
  obtain ⟨hh, b0, b1, b2, b3, b4, b5⟩ := hok
  dsimp only at r0 r1 r2 r3 r4 r5 r6 r7 hn vs hh b0 b1 b2 b3 b4 b5
  obtain ⟨hk, am1, am2, hG, hz, hf, ht, hd, d0, d1⟩ := aln_ok ha
  have T := fnd_emp hh
  have hS : stpE ⟨H, g0, g1, g2, k0, k1, k2, dy⟩ ⟨2, d, fr, ⟨#[]⟩, 0, 0, am, pu⟩ = posF ⟨H, g0, g1, g2, k0, k1, k2, dy⟩ ⟨2, d, fr, ⟨#[]⟩, 0, 0, am, pu⟩ := if_pos ha
  rcases fnd_two fr H with F | ⟨q, hq, F, hnm⟩
  · have hP : posF ⟨H, g0, g1, g2, k0, k1, k2, dy⟩ ⟨2, d, fr, ⟨#[]⟩, 0, 0, am, pu⟩ = 6 := by
      unfold posF frI; dsimp only; rw [F, if_pos (Or.inl ⟨by decide, by decide⟩)]
    rcases vs with rfl | ⟨rfl, lv, nrv, hR, vf⟩
    · refine (add_m2 rb vb n cap A [] d 0 0 am g0 g1 g2 k0 k1 k2 dy fr ⟨#[]⟩ pu w (Lib.hid hn) (by omega) r0 r1 r2 r3 r4 r5 r6 r7 lr (Lib.hid (Or.inl rfl)) (Lib.hid F) (Lib.hid T) (Lib.hid ha)).mono ?_
      rintro e w' ⟨rfl, hb⟩
      exact AddPost.bad (hS.trans hP) (by decide) rfl hb
    · refine (add_m2 rb vb n cap _ H d 0 0 am g0 g1 g2 k0 k1 k2 dy fr ⟨#[]⟩ pu w (Lib.hid hn) (by omega) r0 r1 r2 r3 r4 r5 r6 r7 lr (Lib.hid (Or.inr ⟨vb, rfl, lv, hR⟩)) (Lib.hid F) (Lib.hid T) (Lib.hid ha)).mono ?_
      rintro e w' ⟨rfl, hb⟩
      exact AddPost.bad (hS.trans hP) (by decide) rfl hb
  · rcases vs with rfl | ⟨rfl, lv, nrv, hR, vf⟩
    · simp at hq
    obtain ⟨x0, x1, x2, x3, x4, x5⟩ := hd_at hR hq
    obtain ⟨y0, y1, y2, y3, y4, y5⟩ := hh _ (List.getElem_mem hq)
    have hP : posF ⟨H, g0, g1, g2, k0, k1, k2, dy⟩ ⟨2, d, fr, ⟨#[]⟩, 0, 0, am, pu⟩ = pos2 d dy am (H[q].a + H[q].b + H[q].c) := by
      unfold posF frI tzI; dsimp only; rw [F, T, if_neg (by rintro (⟨h, _⟩ | ⟨_, h⟩); omega; exact h rfl), if_neg (by decide), if_pos rfl, hdAt_q hq]; rfl
    obtain ⟨⟨X, Y, Z⟩, hs⟩ : ∃ s, shareR H[q].a H[q].b H[q].c am = s := ⟨_, rfl⟩
    refine (add_V rb vb n cap q (q * 6) 0 0 H d 0 0 am g0 g1 g2 k0 k1 k2 dy H[q].v H[q].m H[q].a H[q].b H[q].c _ 0 0 0 0 0 0 _ X Y Z _ _ _ _ _ _ fr ⟨#[]⟩ H[q].nm ⟨#[]⟩ pu w (Lib.hid hn) (by omega) r0 r1 r2 r3 r4 r5 r6 r7 x0 x1 x2 x3 x4 x5 vf rf lv lr nrv (Lib.hid hR) (Lib.hid (by omega)) (Lib.hid F) (Lib.hid rfl) (Lib.hid T) (Lib.hid ha) (Lib.hid hG) am1 am2 (Lib.hid y1) (Lib.hid rfl) y2 (by omega) (Lib.hid rfl) (Lib.hid fun _ => hs) (by omega) (by omega) (by omega) (by omega) (by omega) (by omega) (Lib.hid ⟨rfl, rfl, rfl⟩) (Lib.hid ⟨rfl, rfl, rfl⟩)).mono ?_
    rintro e w' ⟨rfl, ⟨hz, hb⟩ | ⟨hz, s0, s1, s2, s3, s4, s5, s6, s7, t0, t1, t2, hV, vf', rf', hD⟩⟩
    · exact AddPost.bad (hS.trans hP) hz rfl hb
    · have hR' : stpR ⟨H, g0, g1, g2, k0, k1, k2, dy⟩ ⟨2, d, fr, ⟨#[]⟩, 0, 0, am, pu⟩ = ⟨H.set q (putC H[q] (H[q].a - X) (H[q].b - Y) (H[q].c - Z)), g0, g1, g2, k0 + X, k1 + Y, k2 + Z, d⟩ := by
        unfold stpR frI; dsimp only; rw [if_neg (by decide), if_pos rfl, F, hdAt_q hq, hs]; unfold outR; rw [Int.toNat_natCast]
      refine ⟨by rw [hS, hP], fun _ => ?_, hD⟩
      rw [hR']
      have cc := conB_iff.1 y1
      obtain ⟨e1, ⟨X0, X1, -, -⟩, ⟨Y0, Y1, -, -⟩, Z0, Z1, -, -⟩ := share_ok y1 (by omega) (pos2_z hz) hs
      refine ⟨⟨s0, s1, s2, s3, s4, s5, s6, s7, rf', Nat.lt_of_lt_of_le lr hD.size, by simpa using hn, hl, Or.inr ⟨rfl, Nat.lt_of_lt_of_le lv hD.size, nrv, rows_set hR hq t0 t1 t2 hV, vf'⟩⟩, ⟨mem_set_ok hh ⟨y0, conB_iff.2 ⟨?_, ?_, ?_, ?_⟩, y2, y3, y4, y5⟩, ?_, ?_, ?_, ?_, ?_, ?_⟩⟩
      all_goals (try dsimp only [putC]) <;> omega
theorem add_mov (rb vb n cap c : Nat) (A : Option Addr) (H : List Hd) (g0 g1 g2 k0 k1 k2 dy d am : Int) (fr tz : ByteArray) (pu : Bool) (w : World) (hr : RmAt w rb vb n cap A ⟨H, g0, g1, g2, k0, k1, k2, dy⟩) (hok : RmOk ⟨H, g0, g1, g2, k0, k1, k2, dy⟩ c) (hc : c ≤ 900) (ha : alnE 1 d fr tz 0 0 am pu = 0) : Calls Try.prog 65 #[.pointer (some ⟨rb, 0, none⟩), .agg #[.int .i64 1, .int .i64 d, .string fr, .string tz, .int .i64 0, .int .i64 0, .int .i64 am, .bool pu]] w (AddPost rb vb n cap A ⟨H, g0, g1, g2, k0, k1, k2, dy⟩ ⟨1, d, fr, tz, 0, 0, am, pu⟩ c w) := by
  obtain ⟨r0, r1, r2, r3, r4, r5, r6, r7, rf, lr, hn, hl, vs⟩ := hr
  obtain ⟨hh, b0, b1, b2, b3, b4, b5⟩ := hok
  dsimp only at r0 r1 r2 r3 r4 r5 r6 r7 hn vs hh b0 b1 b2 b3 b4 b5
  obtain ⟨hk, am1, am2, hG, hz, hf, ht, hd, d0, d1⟩ := aln_ok ha
  have hS : stpE ⟨H, g0, g1, g2, k0, k1, k2, dy⟩ ⟨1, d, fr, tz, 0, 0, am, pu⟩ = posF ⟨H, g0, g1, g2, k0, k1, k2, dy⟩ ⟨1, d, fr, tz, 0, 0, am, pu⟩ := if_pos ha
  rcases fnd_two fr H with F | ⟨p, hp, F, hnp⟩
  · have hP : posF ⟨H, g0, g1, g2, k0, k1, k2, dy⟩ ⟨1, d, fr, tz, 0, 0, am, pu⟩ = 6 := by
      unfold posF frI; dsimp only; rw [F, if_pos (Or.inl ⟨by decide, by decide⟩)]
    rcases fnd_two tz H with T | ⟨q, hq, T, hnm⟩
    · rcases vs with rfl | ⟨rfl, lv, nrv, hR, vf⟩
      · refine (add_m1nn rb vb n cap A [] d 0 0 am g0 g1 g2 k0 k1 k2 dy fr tz pu w (Lib.hid hn) (by omega) r0 r1 r2 r3 r4 r5 r6 r7 lr (Lib.hid (Or.inl rfl)) (Lib.hid F) (Lib.hid T) (Lib.hid ha)).mono ?_
        rintro e w' ⟨rfl, hb⟩
        exact AddPost.bad (hS.trans hP) (by decide) rfl hb
      · refine (add_m1nn rb vb n cap _ H d 0 0 am g0 g1 g2 k0 k1 k2 dy fr tz pu w (Lib.hid hn) (by omega) r0 r1 r2 r3 r4 r5 r6 r7 lr (Lib.hid (Or.inr ⟨vb, rfl, lv, hR⟩)) (Lib.hid F) (Lib.hid T) (Lib.hid ha)).mono ?_
        rintro e w' ⟨rfl, hb⟩
        exact AddPost.bad (hS.trans hP) (by decide) rfl hb
    · rcases vs with rfl | ⟨rfl, lv, nrv, hR, vf⟩
      · simp at hq
      refine (add_m1ns rb vb n cap (some ⟨vb, 0, none⟩) H d 0 0 am g0 g1 g2 k0 k1 k2 dy fr tz pu w (Lib.hid hn) (by omega) r0 r1 r2 r3 r4 r5 r6 r7 lr lv (Lib.hid hR) (Lib.hid F) q (q * 6) (Lib.hid (by omega)) (Lib.hid T) (Lib.hid rfl) (Lib.hid ha)).mono ?_
      rintro e w' ⟨rfl, hb⟩
      exact AddPost.bad (hS.trans hP) (by decide) rfl hb
  · rcases vs with rfl | ⟨rfl, lv, nrv, hR, vf⟩
    · simp at hp
    obtain ⟨x0, x1, x2, x3, x4, x5⟩ := hd_at hR hp
    obtain ⟨y0, y1, y2, y3, y4, y5⟩ := hh _ (List.getElem_mem hp)
    rcases fnd_two tz H with T | ⟨q, hq, T, hnm⟩
    · have hP : posF ⟨H, g0, g1, g2, k0, k1, k2, dy⟩ ⟨1, d, fr, tz, 0, 0, am, pu⟩ = 6 := by
        unfold posF tzI; dsimp only; rw [T, if_pos (Or.inr ⟨by decide, by decide⟩)]
      refine (add_m1sn rb vb n cap (some ⟨vb, 0, none⟩) H d 0 0 am g0 g1 g2 k0 k1 k2 dy fr tz pu w (Lib.hid hn) (by omega) r0 r1 r2 r3 r4 r5 r6 r7 lr lv (Lib.hid hR) p (p * 6) (Lib.hid (by omega)) (Lib.hid F) (Lib.hid rfl) (Lib.hid T) (Lib.hid ha)).mono ?_
      rintro e w' ⟨rfl, hb⟩
      exact AddPost.bad (hS.trans hP) (by decide) rfl hb
    · obtain ⟨z0, z1, z2, z3, z4, z5⟩ := hd_at hR hq
      obtain ⟨v0, v1, v2, v3, v4, v5⟩ := hh _ (List.getElem_mem hq)
      have hne : p ≠ q := by
        intro e; subst e
        exact hd rfl (by rw [← hnp, ← hnm])
      have hP : posF ⟨H, g0, g1, g2, k0, k1, k2, dy⟩ ⟨1, d, fr, tz, 0, 0, am, pu⟩ = pos1 d dy am pu (H[p].a + H[p].b + H[p].c) H[p].v (H[q].a + H[q].b + H[q].c) H[q].v H[q].m := by
        unfold posF frI tzI; dsimp only; rw [F, T, if_neg (by rintro (⟨h, _⟩ | ⟨h, _⟩) <;> omega), if_neg (by decide), if_neg (by decide), hdAt_q hp, hdAt_q hq]; rfl
      obtain ⟨⟨X, Y, Z⟩, hs⟩ : ∃ s, shareR H[p].a H[p].b H[p].c am = s := ⟨_, rfl⟩
      refine (add_M rb vb n cap p (p * 6) q (q * 6) H d 0 0 am g0 g1 g2 k0 k1 k2 dy H[p].v H[p].m H[p].a H[p].b H[p].c _ H[q].v H[q].m H[q].a H[q].b H[q].c _ _ X Y Z _ _ _ _ _ _ fr tz H[p].nm H[q].nm pu w (Lib.hid hn) (by omega) r0 r1 r2 r3 r4 r5 r6 r7 x0 x1 x2 x3 x4 x5 z0 z1 z2 z3 z4 z5 vf rf lv lr nrv (Lib.hid hR) (Lib.hid (by omega)) (Lib.hid F) (Lib.hid rfl) (Lib.hid (by omega)) (Lib.hid T) (Lib.hid rfl) (Lib.hid ha) (Lib.hid hG) am1 am2 (Lib.hid y1) (Lib.hid rfl) y2 (by omega) (Lib.hid v1) (Lib.hid rfl) v2 (by omega) v4 (by omega) (Lib.hid rfl) (Lib.hid fun _ => hs) (Lib.hid ⟨rfl, rfl, rfl⟩) (Lib.hid ⟨rfl, rfl, rfl⟩) (Lib.hid hne)).mono ?_
      rintro e w' ⟨rfl, ⟨hz, hb⟩ | ⟨hz, s0, s1, s2, s3, s4, s5, s6, s7, t0, t1, t2, t3, t4, t5, hV, vf', rf', hD⟩⟩
      · exact AddPost.bad (hS.trans hP) hz rfl hb
      · have hR' : stpR ⟨H, g0, g1, g2, k0, k1, k2, dy⟩ ⟨1, d, fr, tz, 0, 0, am, pu⟩ = ⟨(H.set p (putC H[p] (H[p].a - X) (H[p].b - Y) (H[p].c - Z))).set q (putC H[q] (H[q].a + X) (H[q].b + Y) (H[q].c + Z)), g0, g1, g2, k0, k1, k2, d⟩ := by
          unfold stpR frI tzI; dsimp only; rw [if_neg (by decide), if_neg (by decide), F, T, hdAt_q hp, hdAt_q hq, hs]; unfold movR; rw [Int.toNat_natCast, Int.toNat_natCast]
        refine ⟨by rw [hS, hP], fun _ => ?_, hD⟩
        rw [hR']
        have cc := conB_iff.1 y1
        have dd := conB_iff.1 v1
        have hz' := pos1_z hz
        have hs' := pos_room hz'.2 v2 v3 v4 v5
        obtain ⟨e1, ⟨X0, X1, -, -⟩, ⟨Y0, Y1, -, -⟩, Z0, Z1, -, -⟩ := share_ok y1 (by omega) hz'.1 hs
        refine ⟨⟨s0, s1, s2, s3, s4, s5, s6, s7, rf', Nat.lt_of_lt_of_le lr hD.size, by simpa using hn, hl, Or.inr ⟨rfl, Nat.lt_of_lt_of_le lv hD.size, nrv, rows_set2 hR hp hq hne t0 t1 t2 t3 t4 t5 hV, vf'⟩⟩, ⟨mem_set_ok (mem_set_ok hh ⟨y0, conB_iff.2 ⟨?_, ?_, ?_, ?_⟩, y2, y3, y4, y5⟩) ⟨v0, conB_iff.2 ⟨?_, ?_, ?_, ?_⟩, v2, v3, v4, v5⟩, ?_, ?_, ?_, ?_, ?_, ?_⟩⟩
        all_goals (try dsimp only [putC]) <;> omega
/-- (room).add, for every room as it comes out of right fills, and every fill. -/
theorem add_any (rb vb n cap c : Nat) (A : Option Addr) (r : Rm) (x : Fl) (w : World) (hr : RmAt w rb vb n cap A r) (hok : RmOk r c) (hc : c ≤ 900) : Calls Try.prog 65 #[.pointer (some ⟨rb, 0, none⟩), .agg #[.int .i64 x.k, .int .i64 x.d, .string x.fr, .string x.tz, .int .i64 x.o, .int .i64 x.h, .int .i64 x.am, .bool x.pu]] w (AddPost rb vb n cap A r x c w) := by
  obtain ⟨k, d, fr, tz, o, h, am, pu⟩ := x
  obtain ⟨H, g0, g1, g2, k0, k1, k2, dy⟩ := r
  by_cases ha : alnE k d fr tz o h am pu = 0
  · obtain ⟨hk, am1, am2, hG, hz, hf, ht, hd, d0, d1⟩ := aln_ok ha
    rcases hk with rfl | rfl | rfl
    · obtain rfl := emp_of (hf rfl)
      exact add_in rb vb n cap c A H g0 g1 g2 k0 k1 k2 dy d o h am tz pu w hr hok hc ha
    · rcases hz with hz | ⟨rfl, rfl⟩
      · omega
      exact add_mov rb vb n cap c A H g0 g1 g2 k0 k1 k2 dy d am fr tz pu w hr hok hc ha
    · rcases hz with hz | ⟨rfl, rfl⟩
      · omega
      obtain rfl := emp_of (ht rfl)
      exact add_out rb vb n cap c A H g0 g1 g2 k0 k1 k2 dy d am fr pu w hr hok hc ha
  · refine (add_alone rb k d o h am _ fr tz pu w (Lib.hid rfl) (by simpa using ha)).mono ?_
    rintro e w' ⟨rfl, hb⟩
    exact AddPost.bad (if_neg ha) ha rfl hb
end Go.Proofs.Ytjkhjjmmkdfjmaa
