import Derived.Test.YtijdphlejokijaaEWIEBrk
import Derived.Test.YtijdphlejokijaaEWIESwq
import Derived.Test.YtijdphlejokijaaEWIEPoor
import Derived.Outline
namespace Go.Proofs.Ytijdphlejokijaa
open Go.ChangeShapes Go.WideShapes Go.ChangeAt Go.RowKit
set_option linter.unusedVariables false
set_option linter.unusedSimpArgs false
attribute [local go_sem ↓] Go.wp_at_zero Go.wp_at_succ

theorem wpListIn_append_at {F : Fence} {n : Nat} {P : Program} (w : World) {ops : Array Oper} {rest : List Oper} {o : Oper} {a : Act} {Q : Exit → Act → World → Prop}
    (hg : o.guard = none) (s x : Operand) (t : TypeId) (hop : o.op = Op.call { callee := Callee.builtin Builtin.append, args := #[s, x], argTypes := #[t, t] })
    (base : Nat) (e : TypeId) (i : TypeInfo) (z : Value) (size bytes : Nat) (h1 : P.underlying t = some (.slice e)) (h2 : P.info? e = some i) (h3 : i.zero = some z) (h4 : i.size = size) (h5 : i.bytes = bytes) (h6 : z.cells.size = size) (h7 : 0 < size)
    (v : Value) (k : Nat) (xs : List Value) (hs : a.eval s = v) (hown : w.ownsRow base e size v k xs) (ad : Addr) (m c : Nat) (news : List Value) (hx : a.eval x = .slice (some ad) m c) (hn : news.length = m * size)
    (hc : ∀ j u, news[j]? = some u → w.cell? (ad.add j) = some u) (h1c : ∀ u ∈ news, u.oneCell' = true) (b1 : k + m ≤ maxLen) (b2 : (k + m) * bytes ≤ 140737488355328) (b3 : base ≤ w.heap.size)
    (hK : ∀ v' w', w'.ownsRow base e size v' (k + m) (xs ++ news) → w.grownBy w' v.ownBlock → (∀ k, v'.ownBlock = some k → v.ownBlock = some k ∨ w.heap.size ≤ k) → wpListIn F n P ops Q rest (a.put o.dst v') w') :
    wpListIn F n P ops Q (o :: rest) a w := by
  refine wpListIn_plain hg fun K hK' => ?_
  obtain ⟨v', w', hr, r2, r3, r4, r5⟩ := run_append_own_at (P := P) w base t o.type e i z size bytes h1 h2 h3 h4 h5 h6 h7 v k xs hown ad m c news hn hc h1c b1 b2 b3
  unfold Oper.wpIn
  refine ⟨?_, ?_⟩
  · simp [Oper.about, hop, resolve, Target.leads, Sem.run_pure]
  · rw [Oper.semAt_plain F _ _ (by rw [hop]; intro c hc'; cases hc')]
    simp [execOp, hop, resolve, invoke, builtin, hs, hx, hr, Result.andThen]
    exact hK' _ _ (hK v' w' r2 r3 (fun k hk => by rcases r5 with h6 | h6 <;> rw [h6] at hk; exact Or.inl hk; injection hk with hk; exact Or.inr (by omega)))
theorem limE_bd2 {a b : Int} (h : limE a b = 0) : (1 ≤ a ∧ a ≤ 4000) ∧ 1 ≤ b ∧ b ≤ 4000 := by
  rw [limE_val] at h
  by_cases e : inB a 1 4000 = true ∧ inB b 1 4000 = true
  · exact ⟨inB_iff.1 e.1, inB_iff.1 e.2⟩
  · rw [if_neg e] at h; exact absurd h (by decide)
theorem sl_same {α : Type} {f : α → List Value} {n : Nat} {w w' : World} {A : Option Addr} {L : List α} (h : SlRows f n w A L) (hs : w.heap.size ≤ w'.heap.size) (hb : ∀ ad, A = some ad → L ≠ [] → w'.heap[ad.block]? = w.heap[ad.block]?) : SlRows f n w' A L := by
  by_cases hL : L = []
  · exact Or.inl hL
  · rcases h with h | ⟨b, off, rfl, hl, hR⟩
    · exact absurd h hL
    · exact Or.inr ⟨b, off, rfl, Nat.lt_of_lt_of_le hl hs, fun k hk i hi => (World.cell?_of_block (a := ⟨b, off + k * n + i, none⟩) (hb ⟨b, off, none⟩ rfl hL)).trans (hR k hk i hi)⟩
/-- What a leg breaks. -/
def bkOf (r : Ru) (y : Pl) : List Int := brkL r y.o y.h y.su (y.su + min y.bd y.d) (y.su + max y.bd y.d)
/-- What some legs break. -/
def bkL (r : Ru) (f : Nat → Pl) (pre : List Nat) : List (Int × Int) := pre.flatMap fun x => (bkOf r (f x)).map fun k => ((f x).nu, k)
theorem bkL_snoc (r : Ru) (f : Nat → Pl) (pre : List Nat) (x : Nat) : bkL r f (pre ++ [x]) = bkL r f pre ++ (bkOf r (f x)).map fun k => ((f x).nu, k) := by
  unfold bkL
  rw [List.flatMap_append]
  simp
theorem kndL_len (r : Ru) (o h s d : Int) : (kndL r o h s d).length ≤ 3 := by
  unfold kndL
  split <;> split <;> split <;> simp
theorem brkL_len (r : Ru) (o h s lo hi : Int) : (brkL r o h s lo hi).length ≤ 4 := by
  unfold brkL
  have := kndL_len r o h s (hi - s)
  rw [List.length_append]
  split <;> simp <;> omega
theorem bkL_len (r : Ru) (f : Nat → Pl) : ∀ (n : Nat) (pre : List Nat), pre.length = n → (bkL r f pre).length ≤ 4 * n
  | 0, pre, h => by
    obtain rfl := List.eq_nil_of_length_eq_zero h
    simp [bkL]
  | n + 1, pre, h => by
    obtain ⟨q, x, rfl⟩ : ∃ q x, pre = q ++ [x] := by
      have hne : pre ≠ [] := by intro e; rw [e] at h; simp at h
      exact ⟨pre.dropLast, pre.getLast hne, (List.dropLast_concat_getLast hne).symm⟩
    have hq : q.length = n := by simpa using h
    have ih := bkL_len r f n q hq
    have h4 := brkL_len r (f x).o (f x).h (f x).su ((f x).su + min (f x).bd (f x).d) ((f x).su + max (f x).bd (f x).d)
    rw [bkL_snoc, List.length_append, List.length_map]
    unfold bkOf
    omega
set_option maxRecDepth 100000 in
set_option maxHeartbeats 4000000 in
theorem kindsOf_is (o h s lo hi : Int) (r : Ru) (AT : Option Addr) (tn tc : Nat) (L : List Int) (w : World) (hg : Hid (gasE o h = 0)) (s0 : 400 ≤ s) (s1 : s ≤ 1100) (l0 : 0 ≤ lo) (l1 : lo ≤ 30000) (h0 : 0 ≤ hi) (h1 : hi ≤ 30000) (a0 : 1 ≤ r.a) (a1 : r.a ≤ 4000) (b0 : 1 ≤ r.b) (b1' : r.b ≤ 4000) (hL : Hid (brkL r o h s (s + lo) (s + hi) = L)) :
    Calls Try.prog 82 #[.agg #[.int .i64 o, .int .i64 h], .int .i64 s, .agg #[.int .i64 lo, .int .i64 hi], .agg #[.slice AT tn tc, .int .i64 r.a, .int .i64 r.b, .int .i64 r.nc, .int .i64 r.dn, .int .i64 r.br, .int .i64 r.em, .int .i64 r.pa, .int .i64 r.sc]] w fun e w' => ∃ (C : Option Addr) (c : Nat), e = .returned (.slice C L.length c) ∧ SlRows inV 1 w' C L ∧ (∀ ad, C = some ad → w.heap.size ≤ ad.block) ∧ Below w.heap.size w w' := by
  obtain ⟨i0, hi0, hz0', hz1', hz2'⟩ := info_partsG infoIn
  have HI := Lib.hid hi0
  have HZ0 := Lib.hid hz0'
  have HZ1 := Lib.hid hz1'
  have HZ2 := Lib.hid hz2'
  clear hi0 hz0' hz1' hz2'
  obtain ⟨K, hK⟩ : ∃ z, Hid (kndL r o h s hi = z) := ⟨_, Lib.hid rfl⟩
  obtain ⟨q, hq⟩ : ∃ z, Hid (o * (s + lo) = z) := ⟨_, Lib.hid rfl⟩
  obtain ⟨pb, hpb⟩ : ∃ z, Hid (decide (q < 1000 * r.a) = z) := ⟨_, Lib.hid rfl⟩
  have p0 : 0 ≤ s + lo := by omega
  have p1 : s + lo ≤ 100000 := by omega
  have hk3 : K.length ≤ 3 := by rw [← hK.out]; exact kndL_len r o h s hi
  have wp : IntKind.i64.wrap (s + lo) = s + lo := IntWalk.i64_in _ (by omega)
  go_enter Try.func82, Try.ntmps82
  go_wp2_with fail
  refine (tooDeep_is o h s hi r AT tn tc K _ hg s0 s1 h0 h1 b0 b1' hK).mono ?_
  rintro e x1 ⟨A1, c1, rfl, hsL, hge, hnil, hb1⟩
  have hc1 : Below w.heap.size w x1 := ((((Below.refl _ _).alloc (by first | exact Nat.le_refl _ | (simp; done) | (simp; omega)) _).alloc (by first | exact Nat.le_refl _ | (simp; done) | (simp; omega)) _).alloc (by first | exact Nat.le_refl _ | (simp; done) | (simp; omega)) _).trans (hb1.mono (by first | exact Nat.le_refl _ | (simp; done) | (simp; omega)))
  have hB1 : Below w.heap.size w x1 := hc1
  have zu1 := hB1.size
  have GB : Hid (BlkF x1 w.heap.size (w.heap.size) [.int .i64 o, .int .i64 h]) := Lib.hid ((((BlkF.made (B := w.heap.size) w [.int .i64 o, .int .i64 h] 72 (by first | exact Nat.le_refl _ | (simp; done) | (simp; omega))).below ((Below.refl _ _).alloc (Nat.le_refl _) _)).below ((Below.refl _ _).alloc (Nat.le_refl _) _)).below hb1)
  have zGB1 := GB.out.lt
  have ZB : Hid (BlkF x1 w.heap.size (w.heap.size + 1) [.int .i64 lo, .int .i64 hi]) := Lib.hid (by have := ((BlkF.made (B := w.heap.size) (w.alloc (.cells #[.int .i64 o, .int .i64 h] 72)) [.int .i64 lo, .int .i64 hi] 47 (by first | exact Nat.le_refl _ | (simp; done) | (simp; omega))).below ((Below.refl _ _).alloc (Nat.le_refl _) _)).below hb1; simpa using this)
  have zZB1 := ZB.out.lt
  have RB : Hid (BlkF x1 w.heap.size (w.heap.size + 1 + 1) [.slice AT tn tc, .int .i64 r.a, .int .i64 r.b, .int .i64 r.nc, .int .i64 r.dn, .int .i64 r.br, .int .i64 r.em, .int .i64 r.pa, .int .i64 r.sc]) := Lib.hid (by have := (BlkF.made (B := w.heap.size) ((w.alloc (.cells #[.int .i64 o, .int .i64 h] 72)).alloc (.cells #[.int .i64 lo, .int .i64 hi] 47)) [.slice AT tn tc, .int .i64 r.a, .int .i64 r.b, .int .i64 r.nc, .int .i64 r.dn, .int .i64 r.br, .int .i64 r.em, .int .i64 r.pa, .int .i64 r.sc] 26 (by first | exact Nat.le_refl _ | (simp; done) | (simp; omega))).below hb1; simpa using this)
  have zRB1 := RB.out.lt
  have HL := Lib.hid hsL
  have HGE : Hid (∀ ad, A1 = some ad → w.heap.size ≤ ad.block) := Lib.hid (fun ad h => by have := hge ad h; simp at this; omega)
  have HNI : Hid (A1 = none → K.length = 0 ∧ c1 = 0) := Lib.hid (fun h => ⟨by rcases hsL with h2 | ⟨_, _, h2, _⟩; (rw [h2]; rfl); (rw [h] at h2; cases h2), hnil h⟩)
  clear hsL hge hnil
  clear hb1
  obtain ⟨GB_1_0, GB_1_1⟩ := b2 GB.out
  have lGB_1 := GB.out.lt
  have nGB_1 : x1.heap.size ≠ w.heap.size := by omega
  have mGB_1 : w.heap.size ≠ x1.heap.size := by omega
  obtain ⟨ZB_1_0, ZB_1_1⟩ := b2 ZB.out
  have lZB_1 := ZB.out.lt
  have nZB_1 : x1.heap.size ≠ w.heap.size + 1 := by omega
  have mZB_1 : w.heap.size + 1 ≠ x1.heap.size := by omega
  obtain ⟨RB_1_0, RB_1_1, RB_1_2, RB_1_3, RB_1_4, RB_1_5, RB_1_6, RB_1_7, RB_1_8⟩ := b9 RB.out
  have lRB_1 := RB.out.lt
  have nRB_1 : x1.heap.size ≠ w.heap.size + 1 + 1 := by omega
  have mRB_1 : w.heap.size + 1 + 1 ≠ x1.heap.size := by omega
  go_wp2_with fail
  refine (isPoor_is o h (s + lo) q r AT tn tc pb _ hg p0 p1 hq a0 a1 hpb).mono ?_
  rintro e x2 ⟨rfl, hb2⟩
  have hc2 : Below x1.heap.size x1 x2 := hb2
  have hB2 : Below w.heap.size w x2 := hB1.trans (hc2.mono hB1.size)
  have zu2 := hB2.size
  replace HL := Lib.hid (HL.out.below hc2)
  replace GB := Lib.hid (GB.out.below hc2)
  replace ZB := Lib.hid (ZB.out.below hc2)
  replace RB := Lib.hid (RB.out.below hc2)
  clear GB_1_0 GB_1_1 lGB_1 nGB_1 mGB_1 ZB_1_0 ZB_1_1 lZB_1 nZB_1 mZB_1 RB_1_0 RB_1_1 RB_1_2 RB_1_3 RB_1_4 RB_1_5 RB_1_6 RB_1_7 RB_1_8 lRB_1 nRB_1 mRB_1
  clear hb2 hB1 zu1 hc1
  obtain ⟨GB_2_0, GB_2_1⟩ := b2 GB.out
  have lGB_2 := GB.out.lt
  have nGB_2 : x2.heap.size ≠ w.heap.size := by omega
  have mGB_2 : w.heap.size ≠ x2.heap.size := by omega
  obtain ⟨ZB_2_0, ZB_2_1⟩ := b2 ZB.out
  have lZB_2 := ZB.out.lt
  have nZB_2 : x2.heap.size ≠ w.heap.size + 1 := by omega
  have mZB_2 : w.heap.size + 1 ≠ x2.heap.size := by omega
  obtain ⟨RB_2_0, RB_2_1, RB_2_2, RB_2_3, RB_2_4, RB_2_5, RB_2_6, RB_2_7, RB_2_8⟩ := b9 RB.out
  have lRB_2 := RB.out.lt
  have nRB_2 : x2.heap.size ≠ w.heap.size + 1 + 1 := by omega
  have mRB_2 : w.heap.size + 1 + 1 ≠ x2.heap.size := by omega
  cases pb with
  | false =>
    have hQ : L = K := by
      rw [← hL.out]
      unfold brkL
      rw [hq.out, if_neg (by have := hpb.out; simpa using this), show s + hi - s = hi by omega, hK.out]; rfl
    subst hQ
    go_wp2
    go_ret
    first | exact ⟨A1, ⟨c1, rfl⟩, HL.out, HGE.out, hB2⟩ | exact ⟨A1, c1, rfl, HL.out, HGE.out, hB2⟩
  | true =>
    have hQ : Hid (L = [1] ++ K) := Lib.hid (by
      rw [← hL.out]
      unfold brkL
      rw [hq.out, if_pos (by have := hpb.out; simpa using this), show s + hi - s = hi by omega, hK.out])
    obtain ⟨kn, hkn⟩ : ∃ z, Hid (K.length = z) := ⟨_, Lib.hid rfl⟩
    rw [hkn.out] at hk3 HNI
    have hwx := hB2.size
    have HO : Hid ((x2.alloc (.cells #[.int .i64 1] 3)).ownsRow w.heap.size 3 1 (.slice (some ⟨x2.heap.size, 0, none⟩) 1 1) 1 [.int .i64 1]) := Lib.hid ⟨by simp, .inr ⟨x2.heap.size, 1, #[.int .i64 1], rfl, hwx, World.alloc_heap_new _ _, Nat.le_refl _, by unfold maxLen; omega, by simp, by simp⟩⟩
    have HX := Lib.hid (srcG (f := inV) (n := 1) (fun _ => rfl) (by decide) (HL.out.below (Below.alloc (Below.refl _ x2) (Nat.le_refl _) (.cells #[.int .i64 1] 3))))
    have HLn := Lib.hid (rowsV_len (f := inV) (n := 1) (fun _ => rfl) K)
    rw [hkn.out] at HLn
    rw [hkn.out]
    go_wp2_with (at_builtin; refine wpList_append_slG rfl _ _ 42 rfl w.heap.size 3 i0 (.int .i64 0) 1 8 Try.underlying42 HI.out HZ0.out HZ1.out HZ2.out rfl (by decide) _ 1 [.int .i64 1] rfl HO.out A1 kn c1 (rowsV inV K) rfl HNI.out HLn.out HX.out (rows_one inV_one K) ?c1 ?c2 ?c3 ?_)
    case c1 => unfold maxLen; omega
    case c2 => omega
    case c3 => simp; omega
    intro v' X0 hown hgrow hblk
    have hNX : Below w.heap.size x2 X0 := ((Below.refl w.heap.size x2).alloc hwx _).grown hgrow (by simp; omega) (fun r hr => (own_blockG HO.out r hr).1)
    have hB9 := hB2.trans hNX
    obtain ⟨A5, c5, hrv, hS5, hge5, _, _, _⟩ := SlRows_own (f := inV) (n := 1) (L := [1] ++ K) (fun _ => rfl) (by rw [rowsV_appG, List.length_append, hkn.out]; exact hown)
    have HF := Lib.hid hS5
    have HG5 := Lib.hid hge5
    rw [← hQ.out] at hrv HF
    subst hrv
    clear hown hgrow hblk hNX hS5 hge5 HO HX
    go_wp2
    go_ret
    first | exact ⟨A5, ⟨c5, rfl⟩, HF.out, HG5.out, hB9⟩ | exact ⟨A5, c5, rfl, HF.out, HG5.out, hB9⟩
end Go.Proofs.Ytijdphlejokijaa
