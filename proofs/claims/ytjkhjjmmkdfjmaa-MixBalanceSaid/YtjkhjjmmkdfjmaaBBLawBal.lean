import Derived.Test.YtjkhjjmmkdfjmaaBBLawFl
import Derived.Test.YtjkhjjmmkdfjmaaBBCont
import Derived.Test.YtjkhjjmmkdfjmaaBBBal
import Derived.Outline
namespace Go.Proofs.Ytjkhjjmmkdfjmaa
open Go.ChangeShapes Go.WideShapes Go.ChangeAt Go.RowKit
set_option linter.unusedVariables false
set_option linter.unusedSimpArgs false
attribute [local go_sem ↓] Go.wp_at_zero Go.wp_at_succ
theorem bwm_is (n a b : Int) (x : Bool) (w : World) (hb : Hid (inB n a b = x)) : Calls Try.prog 33 #[.int .i64 n, .int .i64 a, .int .i64 b] w fun e w' => e = .returned (.bool x) ∧ w = w' := by
  rw [← hb.out]; exact baseWithin_any n a b w
theorem sm_take (f : Hd → Int) : ∀ {H : List Hd} {q : Nat} (hq : q < H.length), sm f (H.take (q + 1)) = sm f (H.take q) + f H[q]
  | g :: r, 0, _ => by simp [sm]
  | g :: r, q + 1, h => by
    have ih := sm_take f (H := r) (q := q) (by simpa using h)
    simp only [List.take_succ_cons, sm, List.getElem_cons_succ] at ih ⊢
    omega
theorem sm_nn {f : Hd → Int} : ∀ {H : List Hd}, (∀ g ∈ H, 0 ≤ f g) → 0 ≤ sm f H
  | [], _ => Int.le_refl _
  | g :: r, h => by
    have h1 := h g (by simp)
    have h2 := sm_nn (H := r) fun x hx => h x (by simp [hx])
    unfold sm; omega
theorem sm_le (f : Hd → Int) : ∀ {H : List Hd}, (∀ g ∈ H, 0 ≤ f g) → ∀ q, 0 ≤ sm f (H.take q) ∧ sm f (H.take q) ≤ sm f H
  | [], _, q => by simp [sm]
  | g :: r, h, 0 => by
    have := sm_nn h
    simp only [List.take_zero]; exact ⟨Int.le_refl _, this⟩
  | g :: r, h, q + 1 => by
    have h1 := h g (by simp)
    have h2 := sm_le f (H := r) (fun x hx => h x (by simp [hx])) q
    simp only [List.take_succ_cons, sm]; omega
theorem beh_all {L : List Ve} {X : List Fl} {N : Nat} (h : behP L X = (N, 0)) : RmOk (runR (rm0 L) X) X.length ∧ Bal (runR (rm0 L) X) ∧ Prs (runR (rm0 L) X).H ∧ (runR (rm0 L) X).H.map hdS = L := by
  unfold behP at h
  by_cases h1 : ctV L = 0
  · rw [if_pos h1] at h
    by_cases h2 : 200 < X.length
    · rw [if_pos h2] at h; exact absurd (Prod.mk.inj h).2 (by decide)
    · rw [if_neg h2] at h
      have h0 := rm0_ok h1
      obtain ⟨a, b, c, d⟩ := run_all X (rm0 L) 0 0 h0 (bal0 L) (prs0 h0) h
      exact ⟨by rw [Nat.zero_add] at a; exact a, b, c, d.trans (rm0_map L)⟩
  · rw [if_neg h1] at h; exact absurd (Prod.mk.inj h).2 h1
theorem ctr_at {w : World} {b off : Nat} {H : List Hd} (h : RowsAt ctC 3 w b off H) {k : Nat} (hk : k < H.length) : w.cell? ⟨b, off + k * 3, none⟩ = some (.int .i64 H[k].a) ∧ w.cell? ⟨b, off + k * 3 + 1, none⟩ = some (.int .i64 H[k].b) ∧ w.cell? ⟨b, off + k * 3 + 2, none⟩ = some (.int .i64 H[k].c) := ⟨h k hk 0 (by omega), h k hk 1 (by omega), h k hk 2 (by omega)⟩
/-- Where the loop stands: what came in, the sum so far, the contents, the vessels. -/
structure BaS (sb zb ab ao vb vo : Nat) (r : Rm) (s0 s1 s2 : Int) (w X : World) : Prop where
  g0 : X.cell? ⟨sb, 0, none⟩ = some (.int .i64 r.g0)
  g1 : X.cell? ⟨sb, 1, none⟩ = some (.int .i64 r.g1)
  g2 : X.cell? ⟨sb, 2, none⟩ = some (.int .i64 r.g2)
  z0 : X.cell? ⟨zb, 0, none⟩ = some (.int .i64 s0)
  z1 : X.cell? ⟨zb, 1, none⟩ = some (.int .i64 s1)
  z2 : X.cell? ⟨zb, 2, none⟩ = some (.int .i64 s2)
  zf : ∀ j, X.frozen? ⟨zb, j, none⟩ = false
  ls : sb < X.heap.size
  lz : zb < X.heap.size
  ne : sb ≠ zb
  be : Below w.heap.size w X
  gs : w.heap.size ≤ zb
  ra : r.H = [] ∨ (ab < X.heap.size ∧ ab ≠ zb ∧ RowsAt ctC 3 X ab ao r.H)
  rv : r.H = [] ∨ (vb < X.heap.size ∧ vb ≠ zb ∧ RowsAt veV 3 X vb vo (r.H.map hdS))
theorem BaS.below {sb zb ab ao vb vo : Nat} {r : Rm} {s0 s1 s2 : Int} {w X X' : World} (h : BaS sb zb ab ao vb vo r s0 s1 s2 w X) (hb : Below X.heap.size X X') : BaS sb zb ab ao vb vo r s0 s1 s2 w X' := by
  have z := hb.size
  obtain ⟨g0, g1, g2, z0, z1, z2, zf, ls, lz, ne, be, gs, ra, rv⟩ := h
  exact ⟨(hb.cell (p := ⟨sb, 0, none⟩) ls).trans g0, (hb.cell (p := ⟨sb, 1, none⟩) ls).trans g1, (hb.cell (p := ⟨sb, 2, none⟩) ls).trans g2, (hb.cell (p := ⟨zb, 0, none⟩) lz).trans z0, (hb.cell (p := ⟨zb, 1, none⟩) lz).trans z1, (hb.cell (p := ⟨zb, 2, none⟩) lz).trans z2, fun j => (hb.frozen (p := ⟨zb, j, none⟩) lz).trans (zf j), by omega, by omega, ne, be.trans (hb.mono be.size), gs, ra.imp id fun h => ⟨by have := h.1; omega, h.2.1, h.2.2.below hb h.1⟩, rv.imp id fun h => ⟨by have := h.1; omega, h.2.1, h.2.2.below hb h.1⟩⟩
theorem BaS.drew {sb zb ab ao vb vo : Nat} {r : Rm} {s0 s1 s2 : Int} {w X : World} (h : BaS sb zb ab ao vb vo r s0 s1 s2 w X) : BaS sb zb ab ao vb vo r s0 s1 s2 w X.drew := h.below (Below.refl _ _).drew
theorem BaS.add {sb zb ab ao vb vo : Nat} {r : Rm} {s0 s1 s2 : Int} {w X : World} (h : BaS sb zb ab ao vb vo r s0 s1 s2 w X) (t0 t1 t2 : Int) : BaS sb zb ab ao vb vo r t0 t1 t2 w (((X.setCell ⟨zb, 0, none⟩ (.int .i64 t0)).setCell ⟨zb, 1, none⟩ (.int .i64 t1)).setCell ⟨zb, 2, none⟩ (.int .i64 t2)) := by
  obtain ⟨g0, g1, g2, z0, z1, z2, zf, ls, lz, ne, be, gs, ra, rv⟩ := h
  have off : ∀ b, b ≠ zb → (((X.setCell ⟨zb, 0, none⟩ (.int .i64 t0)).setCell ⟨zb, 1, none⟩ (.int .i64 t1)).setCell ⟨zb, 2, none⟩ (.int .i64 t2)).heap[b]? = X.heap[b]? := fun b hb => (Below.heap_setCell _ _ _ _ hb).trans ((Below.heap_setCell _ _ _ _ hb).trans (Below.heap_setCell _ _ _ _ hb))
  have oc : ∀ b i, b ≠ zb → (((X.setCell ⟨zb, 0, none⟩ (.int .i64 t0)).setCell ⟨zb, 1, none⟩ (.int .i64 t1)).setCell ⟨zb, 2, none⟩ (.int .i64 t2)).cell? ⟨b, i, none⟩ = X.cell? ⟨b, i, none⟩ := fun b i hb => World.cell?_of_block (a := ⟨b, i, none⟩) (off b hb)
  exact ⟨(oc _ _ ne).trans g0, (oc _ _ ne).trans g1, (oc _ _ ne).trans g2, by simp [go_sem, *], by simp [go_sem, *], by simp [go_sem, *], fun j => by rw [World.frozen?_setCell, World.frozen?_setCell, World.frozen?_setCell]; exact zf j, by simpa using ls, by simpa using lz, ne,
    ((be.setCell (p := ⟨zb, 0, none⟩) gs _).setCell (p := ⟨zb, 1, none⟩) gs _).setCell (p := ⟨zb, 2, none⟩) gs _, gs, ra.imp id fun h => ⟨by simpa using h.1, h.2.1, fun k hk i hi => (oc _ _ h.2.1).trans (h.2.2 k hk i hi)⟩, rv.imp id fun h => ⟨by simpa using h.1, h.2.1, fun k hk i hi => (oc _ _ h.2.1).trans (h.2.2 k hk i hi)⟩⟩
set_option maxRecDepth 100000 in
set_option maxHeartbeats 16000000 in
theorem mixBalance_walk (L : List Ve) (A : Option Addr) (cap n : Nat) (X : List Fl) (fA : Option Addr) (fcap m : Nat) (w : World) (hlen : Hid (n = L.length)) (hm : Hid (m = X.length)) (hl : n ≤ 9223372036854775807) (hml : m ≤ 9223372036854775807) (hL : Hid (SlRows veV 3 w A L)) (hX : Hid (SlRows flV 8 w fA X)) (cA : A = none → cap = 0) (cF : fA = none → fcap = 0) :
    Calls Try.prog 6 #[.slice A n cap, .slice fA m fcap] w fun e w' => e = .returned (.bool true) ∧ Below w.heap.size w w' := by
  have HL : Hid (∀ x, Below w.heap.size w x → SlRows veV 3 x A L) := Lib.hid fun x hx => hL.out.below hx
  have HX : Hid (∀ x, Below w.heap.size w x → SlRows flV 8 x fA X) := Lib.hid fun x hx => hX.out.below hx
  go_enter Try.func6, Try.ntmps6
  go_wp2_with fail
  refine (fawake_any _).mono ?_
  rintro e x1 ⟨rfl, hb1⟩
  have zz1 := hb1.size
  try simp at zz1
  have hc1 : Below w.heap.size w x1 := belA
  have hB1 : Below w.heap.size w x1 := hc1
  have zu1 := hB1.size
  clear hb1 
  go_wp2_with fail
  refine (Short_any L A cap n X fA fcap m _ hlen hl (Lib.hid (HL.out _ belA)) hm hml (Lib.hid (HX.out _ belA))).mono ?_
  rintro e x2 ⟨hsh, hb2⟩
  have hc2 : Below x1.heap.size x1 x2 := belA
  have hB2 : Below w.heap.size w x2 := hB1.trans (hc2.mono hB1.size)
  have zu2 := hB2.size
  clear hb2 hB1 zz1 zu1 hc1
  rcases hsh with rfl | ⟨rfl, hsh⟩
  · go_wp2
    go_ret
    exact ⟨rfl, hB2⟩
  obtain ⟨hs1, hs2, hs3, hs4⟩ := hsh
  have n22 : n ≤ 22 := by have := hlen.out; omega
  have m202 : m ≤ 202 := by have := hm.out; omega
  have hsz : Hid (∀ g ∈ L, g.nm.size ≤ 1000000) := Lib.hid fun g hg => by have := hs1 g hg; omega
  obtain ⟨N, E, hD'⟩ : ∃ N E, behP L X = (N, E) := ⟨_, _, rfl⟩
  have hD := Lib.hid hD'
  obtain ⟨r, hr⟩ : ∃ r, Hid (runR (rm0 L) X = r) := ⟨_, Lib.hid rfl⟩
  clear hs1 hs2 hs3 hs4
  have hrl : E = 0 → r.H.map hdS = L := fun h => by
    rw [h] at hD'
    rw [← hr.out]; exact (beh_all hD').2.2.2
  have hrl2 : E = 0 → r.H.length ≤ 1000 := fun h => by
    have := hrl h
    have h2 := congrArg List.length this
    rw [List.length_map] at h2
    have := hlen.out; omega
  have HRL := Lib.hid hrl
  clear hrl
  go_wp2_with fail
  refine (copyVe_n L A cap n _ hlen (by omega) cA (HL.out _ belA)).mono ?_
  rintro e x3 ⟨A1, c1, rfl, hs1, hb3⟩
  have zz3 := hb3.size
  try simp at zz3
  have hc3 : Below x2.heap.size x2 x3 := belA
  have hB3 : Below w.heap.size w x3 := hB2.trans (hc3.mono hB2.size)
  have zu3 := hB3.size
  have HV := Lib.hid hs1
  clear hs1
  clear hb3 hB2 zu2 hc2
  go_wp2_with fail
  refine (copyFl_n X fA fcap m _ hm (by omega) cF (HX.out _ belA)).mono ?_
  rintro e x4 ⟨B1, d1, rfl, ht1, hb4⟩
  have zz4 := hb4.size
  try simp at zz4
  have hc4 : Below x3.heap.size x3 x4 := belA
  have hB4 : Below w.heap.size w x4 := hB3.trans (hc4.mono hB3.size)
  have zu4 := hB4.size
  replace HV := Lib.hid (HV.out.below hc4)
  have HF := Lib.hid ht1
  clear ht1
  clear hb4 hB3 zz3 zu3 hc3
  go_wp2_with fail
  refine (Contents_any L A1 c1 n X B1 d1 m N E r _ hlen (by omega) hsz HV hm HF hD hr hrl2).mono ?_
  rintro e x5 ⟨hcon, hb5⟩
  have zz5 := hb5.size
  try simp at zz5
  have hc5 : Below x4.heap.size x4 x5 := belA
  have hB5 : Below w.heap.size w x5 := hB4.trans (hc5.mono hB4.size)
  have zu5 := hB5.size
  clear HV HF
  clear hb5 hB4 zz4 zu4 hc4
  rcases hcon with ⟨hE0, rfl⟩ | ⟨rfl, Ac, nc, cc, rfl, hnc, hsc⟩
  · have hE1 : (E != 0) = true := by simpa using hE0
    have hE2 : (E == 0) = false := by simpa using hE0
    go_wp2_with fail
    refine (copyVe_n L A cap n _ hlen (by omega) cA (HL.out _ belA)).mono ?_
    rintro e x6 ⟨A2, c2, rfl, hs2, hb6⟩
    have zz6 := hb6.size
    try simp at zz6
    have hc6 : Below x5.heap.size x5 x6 := belA
    have hB6 : Below w.heap.size w x6 := hB5.trans (hc6.mono hB5.size)
    have zu6 := hB6.size
    have HV := Lib.hid hs2
    clear hs2
    clear hb6 hB5 zz5 zu5 hc5
    go_wp2_with fail
    refine (copyFl_n X fA fcap m _ hm (by omega) cF (HX.out _ belA)).mono ?_
    rintro e x7 ⟨B2, d2, rfl, ht2, hb7⟩
    have zz7 := hb7.size
    try simp at zz7
    have hc7 : Below x6.heap.size x6 x7 := belA
    have hB7 : Below w.heap.size w x7 := hB6.trans (hc7.mono hB6.size)
    have zu7 := hB7.size
    replace HV := Lib.hid (HV.out.below hc7)
    have HF := Lib.hid ht2
    clear ht2
    clear hb7 hB6 zz6 zu6 hc6
    go_wp2_with fail
    refine (Sums_any L A2 c2 n X B2 d2 m N E r _ hlen (by omega) hsz HV hm HF hD hr).mono ?_
    rintro e x8 ⟨hsum, hb8⟩
    have zz8 := hb8.size
    try simp at zz8
    have hc8 : Below x7.heap.size x7 x8 := belA
    have hB8 : Below w.heap.size w x8 := hB7.trans (hc8.mono hB7.size)
    have zu8 := hB8.size
    clear HV HF
    clear hb8 hB7 zz7 zu7 hc7
    rcases hsum with ⟨_, rfl⟩ | ⟨h, _⟩
    · have HBZ := Lib.hid hB8
      clear hB8 zz8 zu8 hc8
      go_wp2
      go_ret
      exact ⟨rfl, HBZ.out.trans ((Below.refl _ _).alloc HBZ.out.size _)⟩
    · exact absurd h hE0
  · have hmap := HRL.out rfl
    obtain ⟨ok1, bal, prs, _⟩ := beh_all hD'
    rw [hr.out] at ok1 bal prs
    have hLn : r.H.length = n := by have h2 := congrArg List.length hmap; rw [List.length_map] at h2; rw [hlen.out]; exact h2
    have hncn : nc = n := hnc.trans hLn
    subst hncn
    have HSC := Lib.hid hsc
    clear hsc hnc hD'
    go_wp2_with fail
    refine (copyVe_n L A cap nc _ hlen (by omega) cA (HL.out _ belA)).mono ?_
    rintro e x6 ⟨A2, c2, rfl, hs2, hb6⟩
    have zz6 := hb6.size
    try simp at zz6
    have hc6 : Below x5.heap.size x5 x6 := belA
    have hB6 : Below w.heap.size w x6 := hB5.trans (hc6.mono hB5.size)
    have zu6 := hB6.size
    replace HSC := Lib.hid (HSC.out.below hc6)
    have HV := Lib.hid hs2
    clear hs2
    clear hb6 hB5 zz5 zu5 hc5
    go_wp2_with fail
    refine (copyFl_n X fA fcap m _ hm (by omega) cF (HX.out _ belA)).mono ?_
    rintro e x7 ⟨B2, d2, rfl, ht2, hb7⟩
    have zz7 := hb7.size
    try simp at zz7
    have hc7 : Below x6.heap.size x6 x7 := belA
    have hB7 : Below w.heap.size w x7 := hB6.trans (hc7.mono hB6.size)
    have zu7 := hB7.size
    replace HSC := Lib.hid (HSC.out.below hc7)
    replace HV := Lib.hid (HV.out.below hc7)
    have HF := Lib.hid ht2
    clear ht2
    clear hb7 hB6 zz6 zu6 hc6
    go_wp2_with fail
    refine (Sums_any L A2 c2 nc X B2 d2 m N 0 r _ hlen (by omega) hsz HV hm HF hD hr).mono ?_
    rintro e x8 ⟨hsum, hb8⟩
    have zz8 := hb8.size
    try simp at zz8
    have hc8 : Below x7.heap.size x7 x8 := belA
    have hB8 : Below w.heap.size w x8 := hB7.trans (hc8.mono hB7.size)
    have zu8 := hB8.size
    replace HSC := Lib.hid (HSC.out.below hc8)
    clear HV HF
    clear hb8 hB7 zz7 zu7 hc7
    rcases hsum with ⟨h, _⟩ | ⟨_, rfl⟩
    · exact absurd rfl h
    have HOK := Lib.hid ok1
    have HBAL := Lib.hid bal
    have HPRS := Lib.hid prs
    have HLN := Lib.hid hLn
    clear ok1 bal prs hLn hmap
    go_upto_region 12 with (fail)
    obtain ⟨ab, ao, hA1, hA2⟩ : ∃ ab ao, (nc = 0 ∨ Ac = some ⟨ab, ao, none⟩) ∧ Hid (r.H = [] ∨ (ab < x8.heap.size ∧ RowsAt ctC 3 x8 ab ao r.H)) := by
      rcases HSC.out with h | ⟨b, o, e1, e2, e3⟩
      · exact ⟨0, 0, Or.inl (by rw [← HLN.out, h]; rfl), Lib.hid (Or.inl h)⟩
      · exact ⟨b, o, Or.inr e1, Lib.hid (Or.inr ⟨e2, e3⟩)⟩
    obtain ⟨vb, vo, hV1, hV2⟩ : ∃ vb vo, (nc = 0 ∨ A = some ⟨vb, vo, none⟩) ∧ Hid (r.H = [] ∨ (vb < x8.heap.size ∧ RowsAt veV 3 x8 vb vo (r.H.map hdS))) := by
      rcases HL.out _ hB8 with h | ⟨b, o, e1, e2, e3⟩
      · exact ⟨0, 0, Or.inl (by rw [hlen.out, h]; rfl), Lib.hid (Or.inl (List.map_eq_nil_iff.1 ((HRL.out trivial).trans h)))⟩
      · exact ⟨b, o, Or.inr e1, Lib.hid (Or.inr ⟨e2, by rw [HRL.out trivial]; exact e3⟩)⟩
    refine wp_world (BaS x8.heap.size (x8.heap.size + 1) ab ao vb vo r r.k0 r.k1 r.k2 w) ?_ (fun u hu => ?_)
    · skip
      refine ⟨by simp [go_sem, cP], by simp [go_sem, cP], by simp [go_sem, cP], by simp [go_sem, cP], by simp [go_sem, cP], by simp [go_sem, cP], by intro j; simp [go_sem], by simp; omega, by simp, by omega, ?_, by omega, ?_, ?_⟩
      · exact hB8.trans (show Below w.heap.size x8 _ from belA)
      · exact hA2.out.imp id (fun h => ⟨by simp; omega, by omega, h.2.below (show Below x8.heap.size x8 _ from belA) h.1⟩)
      · exact hV2.out.imp id (fun h => ⟨by simp; omega, by omega, h.2.below (show Below x8.heap.size x8 _ from belA) h.1⟩)
    have HU := Lib.hid hu
    clear hu hA2 hV2 HSC hB8 zz8 zu8 hc8
    obtain ⟨sb, hsb⟩ : ∃ b, b = x8.heap.size := ⟨_, rfl⟩
    obtain ⟨zb, hzb⟩ : ∃ b, b = x8.heap.size + 1 := ⟨_, rfl⟩
    skip
    go_wp2
    go_loopw [10] (fun i wr => ∃ (q : Nat) (s0 s1 s2 : Int), q ≤ nc ∧ i = .int .i64 q ∧ Hid (s0 = r.k0 + sm Hd.a (r.H.take q) ∧ s1 = r.k1 + sm Hd.b (r.H.take q) ∧ s2 = r.k2 + sm Hd.c (r.H.take q)) ∧ Hid (BaS x8.heap.size (x8.heap.size + 1) ab ao vb vo r s0 s1 s2 w wr)) (fun i _ => nc - (intOf i).toNat)
    case atStart => exact ⟨0, r.k0, r.k1, r.k2, by omega, rfl, Lib.hid (by simp [sm]), HU⟩
    case round =>
      clear HU
      obtain ⟨q, s0, s1, s2, hq, rfl, hS, HU⟩ := hrel
      by_cases hqn : q < nc
      · have qn : (q : Int) < (nc : Int) := by omega
        have hqH : q < r.H.length := by have := HLN.out; omega
        have hHne : ¬ r.H = [] := fun h => by rw [h] at hqH; simp at hqH
        have eA := hA1.resolve_left (by omega)
        have eV := hV1.resolve_left (by omega)
        subst eA
        subst eV
        have hgm := List.getElem_mem hqH
        have gok := HOK.out.hd _ hgm
        have gpr := HPRS.out _ hgm
        have hsn := sm_take Hd.a hqH
        have hsn1 := sm_take Hd.b hqH
        have hsn2 := sm_take Hd.c hqH
        have hle0 := sm_le Hd.a (fun g hg => (conB_iff.1 (HOK.out.hd g hg).2.1).1) q
        have hle1 := sm_le Hd.b (fun g hg => (conB_iff.1 (HOK.out.hd g hg).2.1).2.1) q
        have hle2 := sm_le Hd.c (fun g hg => (conB_iff.1 (HOK.out.hd g hg).2.1).2.2.1) q
        obtain ⟨g, hg⟩ : ∃ g, Hid (r.H[q] = g) := ⟨_, Lib.hid rfl⟩
        rw [hg.out] at gok gpr hsn hsn1 hsn2
        obtain ⟨_, gc, gv1, gv2, gm1, gm2⟩ := gok
        obtain ⟨a, ha⟩ : ∃ x, Hid (g.a = x) := ⟨_, Lib.hid rfl⟩
        obtain ⟨b, hb'⟩ : ∃ x, Hid (g.b = x) := ⟨_, Lib.hid rfl⟩
        obtain ⟨c, hc'⟩ : ∃ x, Hid (g.c = x) := ⟨_, Lib.hid rfl⟩
        obtain ⟨v, hv'⟩ : ∃ x, Hid (g.v = x) := ⟨_, Lib.hid rfl⟩
        obtain ⟨mo, hm'⟩ : ∃ x, Hid (g.m = x) := ⟨_, Lib.hid rfl⟩
        unfold hdSum at gpr
        rw [ha.out, hb'.out, hc'.out] at gc gpr
        rw [hv'.out] at gv1 gv2 gpr
        rw [hm'.out] at gm1 gm2 gpr
        rw [ha.out] at hsn
        rw [hb'.out] at hsn1
        rw [hc'.out] at hsn2
        have cc := conB_iff.1 gc
        obtain ⟨e0, e1, e2⟩ := hS.out
        have bG := HBAL.out
        have b0 := HOK.out.g0
        have b1 := HOK.out.g1
        have b2 := HOK.out.g2
        have d0 := HOK.out.k0
        have d1 := HOK.out.k1
        have d2 := HOK.out.k2
        have hXl : X.length ≤ 202 := by have := hm.out; omega
        have t0 := bG.a
        have t1 := bG.b
        have t2 := bG.c
        have q0 : 0 ≤ s0 ∧ s0 ≤ 1000000000000 := by omega
        have q1 : 0 ≤ s1 ∧ s1 ≤ 1000000000000 := by omega
        have q2 : 0 ≤ s2 ∧ s2 ≤ 1000000000000 := by omega
        have HS2 : Hid (s0 + a = r.k0 + sm Hd.a (r.H.take (q + 1)) ∧ s1 + b = r.k1 + sm Hd.b (r.H.take (q + 1)) ∧ s2 + c = r.k2 + sm Hd.c (r.H.take (q + 1))) := Lib.hid ⟨by omega, by omega, by omega⟩
        clear hsn hsn1 hsn2 hle0 hle1 hle2 bG b0 b1 b2 d0 d1 d2 t0 t1 t2 e0 e1 e2 hgm
        obtain ⟨sx, hsx⟩ : ∃ x, Hid (a + b + c = x) := ⟨_, Lib.hid rfl⟩
        have sx0 : 0 ≤ sx ∧ sx ≤ 1000000000 := by have := hsx.out; omega
        have W1 : IntKind.i64.wrap (1000 * sx) = 1000 * sx := IntWalk.i64_in _ (by omega)
        have mv0 : 0 ≤ mo * v := Int.mul_nonneg (by omega) (by omega)
        have mv1 : mo * v ≤ 400000 * 1000000 := Int.mul_le_mul gm2 gv2 (by omega) (by omega)
        have W2 : IntKind.i64.wrap (mo * v) = mo * v := IntWalk.i64_in _ (by omega)
        rw [hsx.out] at gpr
        have hgt : ¬ mo * v < 1000 * sx := by omega
        have hgt2 : decide (mo * v < 1000 * sx) = false := by simpa using gpr
        have hcE : Hid (conE a b c = 0) := Lib.hid (conE_t gc)
        have hcB : Hid (conB a b c = true) := Lib.hid gc
        have hwv : Hid (inB v 1 1000000 = true) := Lib.hid (inB_true gv1 gv2)
        have hwm : Hid (inB mo 1 400000 = true) := Lib.hid (inB_true gm1 gm2)
        obtain ⟨g0, g1, g2, z0, z1, z2, zf, ls, lz, ne, hBe, gs, ra, rv⟩ := HU.out
        obtain ⟨la, na, rA⟩ := ra.resolve_left hHne
        obtain ⟨lv, nv, rV⟩ := rv.resolve_left hHne
        obtain ⟨a0, a1, a2⟩ := ctr_at rA hqH
        obtain ⟨_, v1, v2⟩ := ve_at rV (k := q) (by simpa using hqH)
        simp only [List.getElem_map] at v1 v2
        rw [hg.out] at a0 a1 a2 v1 v2
        replace v1 : _ = some (Value.int .i64 g.v) := v1
        replace v2 : _ = some (Value.int .i64 g.m) := v2
        rw [ha.out] at a0
        rw [hb'.out] at a1
        rw [hc'.out] at a2
        rw [hv'.out] at v1
        rw [hm'.out] at v2
        clear rA rV ra rv
        go_upto_region 15 with (fail)
        refine wp_region_held_drew (S := (fun w' => w'.cell? ⟨ab, ao + q * 3, none⟩ = some (.int .i64 a) ∧ w'.cell? ⟨ab, ao + q * 3 + 1, none⟩ = some (.int .i64 b) ∧ w'.cell? ⟨ab, ao + q * 3 + 2, none⟩ = some (.int .i64 c) ∧ w'.cell? ⟨vb, vo + q * 3 + 1, none⟩ = some (.int .i64 v) ∧ w'.cell? ⟨vb, vo + q * 3 + 2, none⟩ = some (.int .i64 mo))) (by kernel_rfl) (by simp [go_sem, cP, *]) (fun hHeld => ?_)
        refine tkH 0 ⟨some 55, _, _, _, _, _⟩ ?_ rfl ?_ (by assumption) ?_
        rotate_left
        · (intro w hSw; (try dsimp only at hSw); go_simp; all_goals with_reducible rfl)
        try simp only [Act.put, sA, sB, sC]
        refine tkH 1 ⟨some 56, _, _, _, _, _⟩ ?_ rfl ?_ (by assumption) ?_
        rotate_left
        · (intro w hSw; (try dsimp only at hSw); go_simp; all_goals with_reducible rfl)
        try simp only [Act.put, sA, sB, sC]
        refine tkH 2 ⟨some 57, _, _, _, _, _⟩ ?_ rfl ?_ (by assumption) ?_
        rotate_left
        · (intro w hSw; (try dsimp only at hSw); go_simp; all_goals with_reducible rfl)
        try simp only [Act.put, sA, sB, sC]
        refine tkH 3 ⟨some 58, _, _, _, _, _⟩ ?_ rfl ?_ (by assumption) ?_
        rotate_left
        · (intro w hSw; (try dsimp only at hSw); go_simp; all_goals with_reducible rfl)
        try simp only [Act.put, sA, sB, sC]
        refine wpAnyH_ready (rs := [4]) (by kernel_rfl) (by simp) ?_
        refine AllReadyH.cons rfl (fun K hK => ?_) AllReadyH.nil
        go_simp
        refine (refCheckContent_any a b c 0 _ hcE).mono ?_
        rintro e u1 ⟨rfl, hb1⟩
        have hc1 : Below wr.heap.size wr u1 := belA
        replace HU := Lib.hid (HU.out.below hc1)
        clear hb1 hc1 g0 g1 g2 z0 z1 z2 zf ls lz ne hBe gs la na lv nv a0 a1 a2 v1 v2
        obtain ⟨g0, g1, g2, z0, z1, z2, zf, ls, lz, ne, hBe, gs, ra, rv⟩ := HU.out
        obtain ⟨la, na, rA⟩ := ra.resolve_left hHne
        obtain ⟨lv, nv, rV⟩ := rv.resolve_left hHne
        obtain ⟨a0, a1, a2⟩ := ctr_at rA hqH
        obtain ⟨_, v1, v2⟩ := ve_at rV (k := q) (by simpa using hqH)
        simp only [List.getElem_map] at v1 v2
        rw [hg.out] at a0 a1 a2 v1 v2
        replace v1 : _ = some (Value.int .i64 g.v) := v1
        replace v2 : _ = some (Value.int .i64 g.m) := v2
        rw [ha.out] at a0
        rw [hb'.out] at a1
        rw [hc'.out] at a2
        rw [hv'.out] at v1
        rw [hm'.out] at v2
        clear rA rV ra rv
        go_wp2_with fail
        refine hK.out _ _ (by simp [go_sem, cP, *]) (fun hHeld => ?_)
        clear hK K
        try simp only [Act.put, sA, sB, sC]
        refine tkH 5 ⟨some 60, _, _, _, _, _⟩ ?_ rfl ?_ (by assumption) ?_
        rotate_left
        · (intro w hSw; (try dsimp only at hSw); go_simp; all_goals with_reducible rfl)
        try simp only [Act.put, sA, sB, sC]
        refine tkH 6 ⟨some 61, _, _, _, _, _⟩ ?_ rfl ?_ (by assumption) ?_
        rotate_left
        · (intro w hSw; (try dsimp only at hSw); go_simp; all_goals with_reducible rfl)
        try simp only [Act.put, sA, sB, sC]
        refine tkH 7 ⟨some 62, _, _, _, _, _⟩ ?_ rfl ?_ (by assumption) ?_
        rotate_left
        · (intro w hSw; (try dsimp only at hSw); go_simp; all_goals with_reducible rfl)
        try simp only [Act.put, sA, sB, sC]
        refine tkH 8 ⟨some 63, _, _, _, _, _⟩ ?_ rfl ?_ (by assumption) ?_
        rotate_left
        · (intro w hSw; (try dsimp only at hSw); go_simp; all_goals with_reducible rfl)
        try simp only [Act.put, sA, sB, sC]
        refine tkH 9 ⟨some 64, _, _, _, _, _⟩ ?_ rfl ?_ (by assumption) ?_
        rotate_left
        · (intro w hSw; (try dsimp only at hSw); go_simp; all_goals with_reducible rfl)
        try simp only [Act.put, sA, sB, sC]
        refine tkH 10 ⟨some 65, _, _, _, _, _⟩ ?_ rfl ?_ (by assumption) ?_
        rotate_left
        · (intro w hSw; (try dsimp only at hSw); go_simp; all_goals with_reducible rfl)
        try simp only [Act.put, sA, sB, sC]
        refine tkH 11 ⟨some 66, _, _, _, _, _⟩ ?_ rfl ?_ (by assumption) ?_
        rotate_left
        · (intro w hSw; (try dsimp only at hSw); go_simp; all_goals with_reducible rfl)
        try simp only [Act.put, sA, sB, sC]
        refine wpAnyH_ready (rs := [12]) (by kernel_rfl) (by simp) ?_
        refine AllReadyH.cons rfl (fun K hK => ?_) AllReadyH.nil
        go_simp
        refine (bwm_is v 1 1000000 true _ hwv).mono ?_
        rintro e w' ⟨rfl, rfl⟩
        go_wp2_with fail
        refine hK.out _ _ (by simp [go_sem, cP, *]) (fun hHeld => ?_)
        clear hK K
        try simp only [Act.put, sA, sB, sC]
        refine tkH 13 ⟨some 68, _, _, _, _, _⟩ ?_ rfl ?_ (by assumption) ?_
        rotate_left
        · (intro w hSw; (try dsimp only at hSw); go_simp; all_goals with_reducible rfl)
        try simp only [Act.put, sA, sB, sC]
        refine tkH 14 ⟨some 69, _, _, _, _, _⟩ ?_ rfl ?_ (by assumption) ?_
        rotate_left
        · (intro w hSw; (try dsimp only at hSw); go_simp; all_goals with_reducible rfl)
        try simp only [Act.put, sA, sB, sC]
        refine tkH 15 ⟨some 70, _, _, _, _, _⟩ ?_ rfl ?_ (by assumption) ?_
        rotate_left
        · (intro w hSw; (try dsimp only at hSw); go_simp; all_goals with_reducible rfl)
        try simp only [Act.put, sA, sB, sC]
        refine tkH 16 ⟨some 71, _, _, _, _, _⟩ ?_ rfl ?_ (by assumption) ?_
        rotate_left
        · (intro w hSw; (try dsimp only at hSw); go_simp; all_goals with_reducible rfl)
        try simp only [Act.put, sA, sB, sC]
        refine tkH 17 ⟨some 72, _, _, _, _, _⟩ ?_ rfl ?_ (by assumption) ?_
        rotate_left
        · (intro w hSw; (try dsimp only at hSw); go_simp; all_goals with_reducible rfl)
        try simp only [Act.put, sA, sB, sC]
        refine tkH 18 ⟨some 73, _, _, _, _, _⟩ ?_ rfl ?_ (by assumption) ?_
        rotate_left
        · (intro w hSw; (try dsimp only at hSw); go_simp; all_goals with_reducible rfl)
        try simp only [Act.put, sA, sB, sC]
        refine tkH 19 ⟨some 74, _, _, _, _, _⟩ ?_ rfl ?_ (by assumption) ?_
        rotate_left
        · (intro w hSw; (try dsimp only at hSw); go_simp; all_goals with_reducible rfl)
        try simp only [Act.put, sA, sB, sC]
        refine tkH 20 ⟨some 75, _, _, _, _, _⟩ ?_ rfl ?_ (by assumption) ?_
        rotate_left
        · (intro w hSw; (try dsimp only at hSw); go_simp; all_goals with_reducible rfl)
        try simp only [Act.put, sA, sB, sC]
        refine wpAnyH_ready (rs := [21]) (by kernel_rfl) (by simp) ?_
        refine AllReadyH.cons rfl (fun K hK => ?_) AllReadyH.nil
        go_simp
        refine (bwm_is mo 1 400000 true _ hwm).mono ?_
        rintro e w' ⟨rfl, rfl⟩
        go_wp2_with fail
        refine hK.out _ _ (by simp [go_sem, cP, *]) (fun hHeld => ?_)
        clear hK K
        try simp only [Act.put, sA, sB, sC]
        refine tkH 22 ⟨some 77, _, _, _, _, _⟩ ?_ rfl ?_ (by assumption) ?_
        rotate_left
        · (intro w hSw; (try dsimp only at hSw); go_simp; all_goals with_reducible rfl)
        try simp only [Act.put, sA, sB, sC]
        refine tkH 23 ⟨some 78, _, _, _, _, _⟩ ?_ rfl ?_ (by assumption) ?_
        rotate_left
        · (intro w hSw; (try dsimp only at hSw); go_simp; all_goals with_reducible rfl)
        try simp only [Act.put, sA, sB, sC]
        refine tkH 24 ⟨some 79, _, _, _, _, _⟩ ?_ rfl ?_ (by assumption) ?_
        rotate_left
        · (intro w hSw; (try dsimp only at hSw); go_simp; all_goals with_reducible rfl)
        try simp only [Act.put, sA, sB, sC]
        refine tkH 25 ⟨some 80, _, _, _, _, _⟩ ?_ rfl ?_ (by assumption) ?_
        rotate_left
        · (intro w hSw; (try dsimp only at hSw); go_simp; all_goals with_reducible rfl)
        try simp only [Act.put, sA, sB, sC]
        refine tkH 26 ⟨some 81, _, _, _, _, _⟩ ?_ rfl ?_ (by assumption) ?_
        rotate_left
        · (intro w hSw; (try dsimp only at hSw); go_simp; all_goals with_reducible rfl)
        try simp only [Act.put, sA, sB, sC]
        refine tkH 27 ⟨some 82, _, _, _, _, _⟩ ?_ rfl ?_ (by assumption) ?_
        rotate_left
        · (intro w hSw; (try dsimp only at hSw); go_simp; all_goals with_reducible rfl)
        try simp only [Act.put, sA, sB, sC]
        refine tkH 28 ⟨some 83, _, _, _, _, _⟩ ?_ rfl ?_ (by assumption) ?_
        rotate_left
        · (intro w hSw; (try dsimp only at hSw); go_simp; all_goals with_reducible rfl)
        try simp only [Act.put, sA, sB, sC]
        refine tkH 31 ⟨some 86, _, _, _, _, _⟩ ?_ rfl ?_ (by assumption) ?_
        rotate_left
        · (intro w hSw; (try dsimp only at hSw); go_simp; all_goals with_reducible rfl)
        try simp only [Act.put, sA, sB, sC]
        refine tkH 32 ⟨some 87, _, _, _, _, _⟩ ?_ rfl ?_ (by assumption) ?_
        rotate_left
        · (intro w hSw; (try dsimp only at hSw); go_simp; all_goals with_reducible rfl)
        try simp only [Act.put, sA, sB, sC]
        refine tkH 33 ⟨some 88, _, _, _, _, _⟩ ?_ rfl ?_ (by assumption) ?_
        rotate_left
        · (intro w hSw; (try dsimp only at hSw); go_simp; all_goals with_reducible rfl)
        try simp only [Act.put, sA, sB, sC]
        refine tkH 34 ⟨some 89, _, _, _, _, _⟩ ?_ rfl ?_ (by assumption) ?_
        rotate_left
        · (intro w hSw; (try dsimp only at hSw); go_simp; all_goals with_reducible rfl)
        try simp only [Act.put, sA, sB, sC]
        refine tkH 35 ⟨some 90, _, _, _, _, _⟩ ?_ rfl ?_ (by assumption) ?_
        rotate_left
        · (intro w hSw; (try dsimp only at hSw); go_simp; all_goals with_reducible rfl)
        try simp only [Act.put, sA, sB, sC]
        refine tkH 36 ⟨some 91, _, _, _, _, _⟩ ?_ rfl ?_ (by assumption) ?_
        rotate_left
        · (intro w hSw; (try dsimp only at hSw); go_simp; all_goals with_reducible rfl)
        try simp only [Act.put, sA, sB, sC]
        refine tkH 37 ⟨some 92, _, _, _, _, _⟩ ?_ rfl ?_ (by assumption) ?_
        rotate_left
        · (intro w hSw; (try dsimp only at hSw); go_simp; all_goals with_reducible rfl)
        try simp only [Act.put, sA, sB, sC]
        refine tkH 38 ⟨some 93, _, _, _, _, _⟩ ?_ rfl ?_ (by assumption) ?_
        rotate_left
        · (intro w hSw; (try dsimp only at hSw); go_simp; all_goals with_reducible rfl)
        try simp only [Act.put, sA, sB, sC]
        refine tkH 39 ⟨some 94, _, _, _, _, _⟩ ?_ rfl ?_ (by assumption) ?_
        rotate_left
        · (intro w hSw; (try dsimp only at hSw); go_simp; all_goals with_reducible rfl)
        try simp only [Act.put, sA, sB, sC]
        refine tkH 40 ⟨some 95, _, _, _, _, _⟩ ?_ rfl ?_ (by assumption) ?_
        rotate_left
        · (intro w hSw; (try dsimp only at hSw); go_simp; all_goals with_reducible rfl)
        try simp only [Act.put, sA, sB, sC]
        refine tkH 41 ⟨some 96, _, _, _, _, _⟩ ?_ rfl ?_ (by assumption) ?_
        rotate_left
        · (intro w hSw; (try dsimp only at hSw); go_simp; all_goals with_reducible rfl)
        try simp only [Act.put, sA, sB, sC]
        refine wpAnyH_ready (rs := [29]) (by kernel_rfl) (by simp) ?_
        refine AllReadyH.cons rfl (fun K hK => ?_) AllReadyH.nil
        go_simp
        refine (refSum_ok a b c sx _ hcB hsx).mono ?_
        rintro e u2 ⟨rfl, hb2⟩
        have hc2 : Below u1.heap.size u1 u2 := belA
        replace HU := Lib.hid (HU.out.below hc2)
        clear hb2 hc2 g0 g1 g2 z0 z1 z2 zf ls lz ne hBe gs la na lv nv a0 a1 a2 v1 v2
        obtain ⟨g0, g1, g2, z0, z1, z2, zf, ls, lz, ne, hBe, gs, ra, rv⟩ := HU.out
        obtain ⟨la, na, rA⟩ := ra.resolve_left hHne
        obtain ⟨lv, nv, rV⟩ := rv.resolve_left hHne
        obtain ⟨a0, a1, a2⟩ := ctr_at rA hqH
        obtain ⟨_, v1, v2⟩ := ve_at rV (k := q) (by simpa using hqH)
        simp only [List.getElem_map] at v1 v2
        rw [hg.out] at a0 a1 a2 v1 v2
        replace v1 : _ = some (Value.int .i64 g.v) := v1
        replace v2 : _ = some (Value.int .i64 g.m) := v2
        rw [ha.out] at a0
        rw [hb'.out] at a1
        rw [hc'.out] at a2
        rw [hv'.out] at v1
        rw [hm'.out] at v2
        clear rA rV ra rv
        go_wp2_with fail
        refine hK.out _ _ (by simp [go_sem, cP, *]) (fun hHeld => ?_)
        clear hK K
        try simp only [Act.put, sA, sB, sC]
        refine tkH 30 ⟨some 85, _, _, _, _, _⟩ ?_ rfl ?_ (by assumption) ?_
        rotate_left
        · (intro w hSw; (try dsimp only at hSw); go_simp; all_goals with_reducible rfl)
        try simp only [Act.put, sA, sB, sC]
        refine tkH 42 ⟨some 97, _, _, _, _, _⟩ ?_ rfl ?_ (by assumption) ?_
        rotate_left
        · (intro w hSw; (try dsimp only at hSw); go_simp; all_goals with_reducible rfl)
        try simp only [Act.put, sA, sB, sC]
        refine tkH 43 ⟨some 98, _, _, _, _, _⟩ ?_ rfl ?_ (by assumption) ?_
        rotate_left
        · (intro w hSw; (try dsimp only at hSw); go_simp; all_goals with_reducible rfl)
        try simp only [Act.put, sA, sB, sC]
        refine wpAnyH_done (by kernel_rfl) ?_ _
        go_upto_region 17 with (fail)
        refine wp_region_Z (S := (fun w' => w'.cell? ⟨x8.heap.size + 1, 0, none⟩ = some (.int .i64 s0) ∧ w'.cell? ⟨x8.heap.size + 1, 1, none⟩ = some (.int .i64 s1) ∧ w'.cell? ⟨x8.heap.size + 1, 2, none⟩ = some (.int .i64 s2) ∧ w'.cell? ⟨ab, ao + q * 3, none⟩ = some (.int .i64 a) ∧ w'.cell? ⟨ab, ao + q * 3 + 1, none⟩ = some (.int .i64 b) ∧ w'.cell? ⟨ab, ao + q * 3 + 2, none⟩ = some (.int .i64 c))) 6 (by kernel_rfl) (by kernel_rfl) (by kernel_rfl) (by simp [go_sem, cP, *]) (fun hHeld => ?_)
        refine wpAnyZ_take (i := 0) (oi := ⟨some 99, _, _, _, _, _⟩) (v := ?_) (by kernel_rfl) (by kernel_rfl) rfl rfl (by kernel_rfl) (by kernel_rfl) (by kernel_rfl) (fun _ _ _ h => h) (Or.inl ⟨by kernel_rfl, ?_⟩) (by assumption) ?_
        rotate_left
        · (intro w hSw; (try dsimp only at hSw); go_simp; all_goals with_reducible rfl)
        try simp only [Act.put, List.setIfInBounds_toArray, List.set_cons_zero, List.set_cons_succ]
        refine wpAnyZ_take (i := 1) (oi := ⟨some 100, _, _, _, _, _⟩) (v := ?_) (by kernel_rfl) (by kernel_rfl) rfl rfl (by kernel_rfl) (by kernel_rfl) (by kernel_rfl) (fun _ _ _ h => h) (Or.inl ⟨by kernel_rfl, ?_⟩) (by assumption) ?_
        rotate_left
        · (intro w hSw; (try dsimp only at hSw); go_simp; all_goals with_reducible rfl)
        try simp only [Act.put, List.setIfInBounds_toArray, List.set_cons_zero, List.set_cons_succ]
        refine wpAnyZ_take (i := 2) (oi := ⟨some 101, _, _, _, _, _⟩) (v := ?_) (by kernel_rfl) (by kernel_rfl) rfl rfl (by kernel_rfl) (by kernel_rfl) (by kernel_rfl) (fun _ _ _ h => h) (Or.inl ⟨by kernel_rfl, ?_⟩) (by assumption) ?_
        rotate_left
        · (intro w hSw; (try dsimp only at hSw); go_simp; all_goals with_reducible rfl)
        try simp only [Act.put, List.setIfInBounds_toArray, List.set_cons_zero, List.set_cons_succ]
        refine wpAnyZ_take (i := 3) (oi := ⟨some 102, _, _, _, _, _⟩) (v := ?_) (by kernel_rfl) (by kernel_rfl) rfl rfl (by kernel_rfl) (by kernel_rfl) (by kernel_rfl) (fun _ _ _ h => h) (Or.inl ⟨by kernel_rfl, ?_⟩) (by assumption) ?_
        rotate_left
        · (intro w hSw; (try dsimp only at hSw); go_simp; all_goals with_reducible rfl)
        try simp only [Act.put, List.setIfInBounds_toArray, List.set_cons_zero, List.set_cons_succ]
        refine wpAnyZ_take (i := 4) (oi := ⟨some 103, _, _, _, _, _⟩) (v := ?_) (by kernel_rfl) (by kernel_rfl) rfl rfl (by kernel_rfl) (by kernel_rfl) (by kernel_rfl) (fun _ _ _ h => h) (Or.inl ⟨by kernel_rfl, ?_⟩) (by assumption) ?_
        rotate_left
        · (intro w hSw; (try dsimp only at hSw); go_simp; all_goals with_reducible rfl)
        try simp only [Act.put, List.setIfInBounds_toArray, List.set_cons_zero, List.set_cons_succ]
        refine wpAnyZ_call (q := 5) (by kernel_rfl) rfl rfl (fun K hK => ?_)
        go_simp
        refine (refPlus_any s0 s1 s2 a b c (s0 + a) (s1 + b) (s2 + c) _ q0.1 q0.2 q1.1 q1.2 q2.1 q2.2 cc.1 (by omega) cc.2.1 (by omega) cc.2.2.1 (by omega) (Lib.hid ⟨rfl, rfl, rfl⟩)).mono ?_
        rintro e u3 ⟨rfl, hb3⟩
        have hc3 : Below u2.heap.size u2 u3 := belA
        replace HU := Lib.hid (HU.out.below hc3)
        clear hb3 hc3 g0 g1 g2 z0 z1 z2 zf ls lz ne hBe gs la na lv nv a0 a1 a2 v1 v2
        obtain ⟨g0, g1, g2, z0, z1, z2, zf, ls, lz, ne, hBe, gs, ra, rv⟩ := HU.out
        obtain ⟨la, na, rA⟩ := ra.resolve_left hHne
        obtain ⟨lv, nv, rV⟩ := rv.resolve_left hHne
        obtain ⟨a0, a1, a2⟩ := ctr_at rA hqH
        obtain ⟨_, v1, v2⟩ := ve_at rV (k := q) (by simpa using hqH)
        simp only [List.getElem_map] at v1 v2
        rw [hg.out] at a0 a1 a2 v1 v2
        replace v1 : _ = some (Value.int .i64 g.v) := v1
        replace v2 : _ = some (Value.int .i64 g.m) := v2
        rw [ha.out] at a0
        rw [hb'.out] at a1
        rw [hc'.out] at a2
        rw [hv'.out] at v1
        rw [hm'.out] at v2
        clear rA rV ra rv
        go_wp2_with fail
        refine hK.out _ _ (by simp [go_sem, cP, *]) (fun hHeld => ?_)
        clear hK K
        try simp only [Act.put, List.setIfInBounds_toArray, List.set_cons_zero, List.set_cons_succ]
        refine wpAnyZ_last (by kernel_rfl) rfl (fun K hK => ?_)
        go_simp
        go_wp2_with fail
        refine hK.out _ _ ?_
        clear hK K
        try simp only [Act.put, List.setIfInBounds_toArray, List.set_cons_zero, List.set_cons_succ]
        have HU9 : Hid (BaS _ _ ab ao vb vo r (s0 + a) (s1 + b) (s2 + c) w _) := Lib.hid (HU.out.add (s0 + a) (s1 + b) (s2 + c))
        clear g0 g1 g2 z0 z1 z2 zf ls lz ne hBe gs la na lv nv a0 a1 a2 v1 v2
        go_wp2
        go_roundw
        case rel => exact ⟨q + 1, s0 + a, s1 + b, s2 + c, by omega, by go_num, HS2, HU9⟩
        case measure => simp [intOf]; omega
      · have qn : ¬ (q : Int) < (nc : Int) := by omega
        have hqq : q = nc := by omega
        obtain ⟨e0, e1, e2⟩ := hS.out
        rw [List.take_of_length_le (by have := HLN.out; omega)] at e0 e1 e2
        have bG := HBAL.out
        have f0 : s0 = r.g0 := by have := bG.a; omega
        have f1 : s1 = r.g1 := by have := bG.b; omega
        have f2 : s2 = r.g2 := by have := bG.c; omega
        rw [f0, f1, f2] at HU
        obtain ⟨g0, g1, g2, z0, z1, z2, zf, ls, lz, ne, hBe, gs, ra, rv⟩ := HU.out
        clear e0 e1 e2 bG f0 f1 f2 hS hqq ra rv
        go_wp2
        go_ret
        exact ⟨rfl, hBe⟩
theorem mixBalance_any (L : List Ve) (A : Option Addr) (cap : Nat) (X : List Fl) (fA : Option Addr) (fcap : Nat) (w : World) (hl : L.length ≤ 9223372036854775807) (cA : A = none → cap = 0) (hL : SlRows veV 3 w A L) (_ : L.length ≤ cap) (_ : cap ≤ maxLen) (hml : X.length ≤ 9223372036854775807) (cF : fA = none → fcap = 0) (hX : SlRows flV 8 w fA X) (_ : X.length ≤ fcap) (_ : fcap ≤ maxLen) :
    Calls Try.prog 6 #[.slice A L.length cap, .slice fA X.length fcap] w fun e w' => e = .returned (.bool true) ∧ Below w.heap.size w w' :=
  mixBalance_walk L A cap _ X fA fcap _ w (Lib.hid rfl) (Lib.hid rfl) hl hml (Lib.hid hL) (Lib.hid hX) cA cF
end Go.Proofs.Ytjkhjjmmkdfjmaa
