/- What tissue.LegsOf returns. -/
import Derived.Test.YtbdiljbjddppcaaTPChk
import Derived.Test.YtbdiljbjddppcaaTRefRoots
import Derived.Deep.DrawnRows
import Derived.Deep.CutRange
import Derived.Deep.CutBlock
import Derived.Outline
namespace Go.Proofs.Ytbdiljbjddppcaa
open Go.ChangeShapes Go.WideShapes Go.ChangeAt Go.RowKit
set_option linter.unusedVariables false
set_option linter.unusedSimpArgs false
attribute [local go_sem ↓] Go.wp_at_zero Go.wp_at_succ
theorem oper_append_own_at {P : Program} {w : World} {o : Oper} {a : Act} {K : Act → World → Prop} {Q : Exit → Act → World → Prop} (s x : Operand) (t : TypeId)
    (ho : o.op = .call { callee := .builtin .append, args := #[s, x], argTypes := #[t, t] })
    (base : Nat) (e : TypeId) (i : TypeInfo) (z : Value) (size bytes : Nat) (ht : P.underlying t = some (.slice e)) (hi : P.info? e = some i) (hz : i.zero = some z)
    (hsize : i.size = size) (hby : i.bytes = bytes) (hzs : z.cells.size = size) (hsz : 0 < size)
    (v : Value) (n : Nat) (xs : List Value) (hs : a.eval s = v) (hown : w.ownsRow base e size v n xs)
    (ad : Addr) (m c : Nat) (news : List Value) (hx : a.eval x = .slice (some ad) m c) (hl : news.length = m * size) (hnews : ∀ j u, news[j]? = some u → w.cell? (ad.add j) = some u) (h1 : ∀ u ∈ news, u.oneCell' = true)
    (h63 : n + m ≤ maxLen) (hbytes : (n + m) * bytes ≤ 140737488355328) (hbase : base ≤ w.heap.size)
    (h : ∀ v' w', w'.ownsRow base e size v' (n + m) (xs ++ news) → w.grownBy w' v.ownBlock → K (a.put o.dst v') w') : o.wp P a w K Q := by
  obtain ⟨v', w', hr, h2, h3, _, _⟩ := run_append_own_at (P := P) w base t o.type e i z size bytes ht hi hz hsize hby hzs hsz v n xs hown ad m c news hl hnews h1 h63 hbytes hbase
  unfold Oper.wp execOp
  simp only [ho, resolve, invoke, builtin, Sem.run_bind, Sem.run_pure, Result.andThen_ok, List.map_toArray, List.map_cons, List.map_nil, hs, hx, hr]
  exact h v' w' h2 h3
/-- The depth at which the k-th leg begins; its error; the leg. -/
def depAt (L : List Dl) (k : Nat) : Int := if k = 0 then 0 else (L.getD (k - 1) default).d
def errAt (L : List Dl) (ng : Nat) (k : Nat) : Int := dlE (L.getD k default).s (L.getD k default).d (L.getD k default).g (depAt L k) ng
def legAt (s : Int) (G : List Gp) (L : List Dl) (k : Nat) : Tl := ⟨s + depAt L k, s + (L.getD k default).d, (L.getD k default).s, (G.getD (L.getD k default).g.toNat default).o, (G.getD (L.getD k default).g.toNat default).h⟩
/-- The first error among the first n. -/
def fstN (f : Nat → Int) : Nat → Int
  | 0 => 0
  | k + 1 => if fstN f k = 0 then f k else fstN f k
theorem fstN_s {f : Nat → Int} {k : Nat} (hz : fstN f k = 0) (h0 : f k = 0) : fstN f (k + 1) = 0 := by
  unfold fstN; rw [if_pos hz]; exact h0
theorem fstN_at {f : Nat → Int} {k n : Nat} (hk : k < n) (hz : fstN f k = 0) (hn : f k ≠ 0) : fstN f n = f k := by
  induction n with
  | zero => omega
  | succ n ih =>
    unfold fstN
    by_cases e : k = n
    · subst e; rw [if_pos hz]
    · have := ih (by omega)
      rw [this, if_neg hn]
theorem fstN_all {f : Nat → Int} {n : Nat} (h : fstN f n = 0) : ∀ k, k < n → f k = 0 := by
  induction n with
  | zero => intro k hk; omega
  | succ n ih =>
    unfold fstN at h
    by_cases e : fstN f n = 0
    · rw [if_pos e] at h
      intro k hk
      by_cases e2 : k = n
      · subst e2; exact h
      · exact ih e k (by omega)
    · rw [if_neg e] at h; exact absurd h e
def totE (s : Int) (G : List Gp) (L : List Dl) : Int := if plnE s G L.length = 0 then fstN (errAt L G.length) L.length else plnE s G L.length
def legsV (s : Int) (G : List Gp) (L : List Dl) (n : Nat) : List Tl := (List.range n).map (legAt s G L)
theorem legsV_len (s : Int) (G : List Gp) (L : List Dl) (n : Nat) : (legsV s G L n).length = n := by simp [legsV]
theorem legsV_at {s : Int} {G : List Gp} {L : List Dl} {n k : Nat} (hk : k < (legsV s G L n).length) : (legsV s G L n)[k] = legAt s G L k := by simp [legsV]
theorem tlc_s (s : Int) (G : List Gp) (L : List Dl) (k : Nat) : tlc (legsV s G L (k + 1)) = tlc (legsV s G L k) ++ [.int .i64 (legAt s G L k).f, .int .i64 (legAt s G L k).t, .int .i64 (legAt s G L k).s, .int .i64 (legAt s G L k).o, .int .i64 (legAt s G L k).h] := by
  unfold legsV
  rw [List.range_succ, List.map_append]
  unfold tlc
  rw [List.flatMap_append]
  rfl
theorem getD_is {α : Type} [Inhabited α] {P : List α} {k : Nat} (hk : k < P.length) : P.getD k default = P[k] := by simp [List.getD, hk]
theorem depAt_s {L : List Dl} {k : Nat} (hk : k < L.length) : depAt L (k + 1) = L[k].d := by
  unfold depAt
  rw [if_neg (by omega), Nat.add_sub_cancel, getD_is hk]
theorem depAt_bd {L : List Dl} {ng k : Nat} (hk : k ≤ L.length) (h : fstN (errAt L ng) k = 0) : 0 ≤ depAt L k ∧ depAt L k ≤ 30000 := by
  cases k with
  | zero => unfold depAt; simp
  | succ k =>
    have := fstN_all h k (by omega)
    unfold errAt at this
    have hb := (dlE_ok this).2.1
    unfold depAt
    rw [if_neg (by omega), Nat.add_sub_cancel]
    exact hb
/-- LegsOf returned the legs of a plan, or its error. -/
def LegsPost (s : Int) (G : List Gp) (L : List Dl) (w : World) (e : Ending) (w' : World) : Prop := Below w.heap.size w w' ∧ ((totE s G L ≠ 0 ∧ e = .returned (.tuple #[.slice none 0 0, .int .i64 (totE s G L)])) ∨ (totE s G L = 0 ∧ ∃ A cap, e = .returned (.tuple #[.slice A L.length cap, .int .i64 0]) ∧ SlTl w' A (legsV s G L L.length)))
set_option maxRecDepth 100000 in
set_option maxHeartbeats 4000000 in
theorem LegsOf_any (nm : Value) (s : Int) (G : List Gp) (L : List Dl) (A B : Option Addr) (cap cap' : Nat) (w : World) (hl : G.length ≤ 1000000) (hn : L.length ≤ 1000000) (hG : SlGp w A G) (hL : SlDl w B L) :
    Calls Try.prog 35 #[.agg #[nm, .int .i64 s, .slice A G.length cap, .slice B L.length cap']] w (LegsPost s G L w) := by
  have HG := Lib.hid hG
  have HL := Lib.hid hL
  clear hG hL
  obtain ⟨i0, hi, hz0, hz1, hz2⟩ := info_parts infoTl
  have HI := Lib.hid hi
  have HZ0 := Lib.hid hz0
  have HZ1 := Lib.hid hz1
  have HZ2 := Lib.hid hz2
  clear hi hz0 hz1 hz2
  obtain ⟨E, hE⟩ : ∃ E, Hid (plnE s G L.length = E) := ⟨_, rfl⟩
  have HC := Lib.hid (fun w hG => by have := checkPlan_any nm s G A B cap cap' L.length w hl hn hG; rw [hE.out] at this; exact this)
  go_enter Try.func35, Try.ntmps35
  go_wp2_with fail
  refine (HC.out _ (HG.out.below (by (repeat (first | (with_reducible refine Below.drew ?_) | (with_reducible refine below_drewN ?_ _) | (with_reducible refine Below.alloc ?_ (by first | omega | (simp; done) | (simp; omega) | (simp at *; omega)) _) | (with_reducible refine Below.setCell ?_ (by first | omega | (simp; done) | (simp; omega) | (simp at *; omega)) _) | (with_reducible exact Below.refl _ _) | (with_reducible assumption) | (with_reducible refine Below.trans ?_ (Below.mono (by assumption) (by first | omega | (simp; done) | (simp; omega) | (simp at *; omega))))))))).mono ?_
  rintro e w1 ⟨rfl, hb1⟩
  have c1 : w1.cell? ⟨w.heap.size, 1, none⟩ = some (.int .i64 s) := by rw [(bcell hb1).1 _ _ (by first | (simp; done) | (simp; omega) | omega)]; simp [go_sem, World.cell?_alloc_past]
  have c2 : w1.cell? ⟨w.heap.size, 2, none⟩ = some (.slice A G.length cap) := by rw [(bcell hb1).1 _ _ (by first | (simp; done) | (simp; omega) | omega)]; simp [go_sem, World.cell?_alloc_past]
  have c3 : w1.cell? ⟨w.heap.size, 3, none⟩ = some (.slice B L.length cap') := by rw [(bcell hb1).1 _ _ (by first | (simp; done) | (simp; omega) | omega)]; simp [go_sem, World.cell?_alloc_past]
  have hB1 : Below w.heap.size w w1 := (by (repeat (first | (with_reducible refine Below.drew ?_) | (with_reducible refine below_drewN ?_ _) | (with_reducible refine Below.alloc ?_ (by first | omega | (simp; done) | (simp; omega) | (simp at *; omega)) _) | (with_reducible refine Below.setCell ?_ (by first | omega | (simp; done) | (simp; omega) | (simp at *; omega)) _) | (with_reducible exact Below.refl _ _) | (with_reducible assumption) | (with_reducible refine Below.trans ?_ (Below.mono (by assumption) (by first | omega | (simp; done) | (simp; omega) | (simp at *; omega)))))))
  have z1 := hb1.size
  try simp at z1
  have o1 : w.heap.size < w1.heap.size := by omega
  have n1 : w1.heap.size ≠ w.heap.size := by omega
  have HG1 := Lib.hid (HG.out.below hB1)
  have HL1 := Lib.hid (HL.out.below hB1)
  clear hb1 HC HG HL z1
  rcases ez2 E with ⟨gz, gb⟩ | ⟨gz, gb⟩
  rotate_left
  · have hT : Hid (totE s G L = E) := by unfold totE Hid; rw [if_neg (by rw [hE.out]; exact gz.out), hE.out]
    have hne : Hid (totE s G L ≠ 0) := by show _ ≠ _; rw [hT.out]; exact gz.out
    clear gz hE
    go_wp2
    go_ret2
    exact ⟨hB1, Or.inl ⟨hne.out, by rw [hT.out]; rfl⟩⟩
  have hT : Hid (totE s G L = fstN (errAt L G.length) L.length) := by unfold totE Hid; rw [if_pos (hE.out.trans gz.out)]
  obtain ⟨p1, p2, p3, p4⟩ := plnE_ok (hE.out.trans gz.out)
  obtain ⟨q1, q2⟩ := inB_iff.1 p1
  have HP4 := Lib.hid p4
  clear gz hE p4
  go_wp2
  go_loopw [5, 6, 22] (fun v d i wr => ∃ k : Nat, k ≤ L.length ∧ i = .int .i64 k ∧ d = .int .i64 (depAt L k) ∧ Hid (fstN (errAt L G.length) k = 0) ∧ Hid (wr.ownsRow w1.heap.size 52 5 v k (tlc (legsV s G L k))) ∧ Below w1.heap.size w1 wr) (fun _ _ i _ => L.length - (intOf i).toNat)
  case atStart => exact ⟨0, by omega, rfl, rfl, rfl, World.ownsRow_nil _ _ _ _, (by (repeat (first | (with_reducible refine Below.drew ?_) | (with_reducible refine below_drewN ?_ _) | (with_reducible refine Below.alloc ?_ (by first | omega | (simp; done) | (simp; omega) | (simp at *; omega)) _) | (with_reducible refine Below.setCell ?_ (by first | omega | (simp; done) | (simp; omega) | (simp at *; omega)) _) | (with_reducible exact Below.refl _ _) | (with_reducible assumption) | (with_reducible refine Below.trans ?_ (Below.mono (by assumption) (by first | omega | (simp; done) | (simp; omega) | (simp at *; omega)))))))⟩
  case round =>
    obtain ⟨k, hk, rfl, rfl, hz, HO, hB⟩ := hrel
    have sz := hB.size
    replace c1 := (hB.cell (p := ⟨w.heap.size, 1, none⟩) o1).trans c1
    replace c2 := (hB.cell (p := ⟨w.heap.size, 2, none⟩) o1).trans c2
    replace c3 := (hB.cell (p := ⟨w.heap.size, 3, none⟩) o1).trans c3
    have o2 : w.heap.size < wr.heap.size := by omega
    have n2 : wr.heap.size ≠ w.heap.size := by omega
    have hBr : Below w.heap.size w wr := hB1.trans (hB.mono hB1.size)
    have HGr := Lib.hid (HG1.out.below hB)
    obtain ⟨db1, db2⟩ := depAt_bd hk hz.out
    obtain ⟨dp, hdp⟩ : ∃ z, Hid (depAt L k = z) := ⟨_, rfl⟩
    rw [hdp.out] at db1 db2 ⊢
    by_cases hkl : k < L.length
    · have hkl2 : (k : Int) < L.length := by omega
      rcases (HL1.out.below hB : SlDl wr B L) with hnil | ⟨lb, lo, hBB, llt, LL⟩
      · rw [hnil] at hkl; simp at hkl
      subst hBB
      obtain ⟨l0, l1, l2⟩ := LL k hkl
      have hgd : L.getD k default = L[k] := getD_is hkl
      have hds : Hid (depAt L (k + 1) = L[k].d) := depAt_s hkl
      obtain ⟨q, hq⟩ : ∃ z, Hid (errAt L G.length k = z) := ⟨_, rfl⟩
      have hq1 : errAt L G.length k = dlE L[k].s L[k].d L[k].g dp G.length := by unfold errAt; rw [hgd, hdp.out]
      have hlg : legAt s G L k = ⟨s + dp, s + L[k].d, L[k].s, (G.getD L[k].g.toNat default).o, (G.getD L[k].g.toNat default).h⟩ := by unfold legAt; rw [hgd, hdp.out]
      have HN := Lib.hid (tlc_s s G L k)
      rw [hlg] at HN
      dsimp only at HN
      obtain ⟨ls, hls⟩ : ∃ z, Hid (L[k].s = z) := ⟨L[k].s, Lib.hid rfl⟩
      obtain ⟨ld, hld⟩ : ∃ z, Hid (L[k].d = z) := ⟨L[k].d, Lib.hid rfl⟩
      obtain ⟨lg, hlgg⟩ : ∃ z, Hid (L[k].g = z) := ⟨L[k].g, Lib.hid rfl⟩
      rw [hls.out] at l0 hq1 HN
      rw [hld.out] at l1 hq1 hds HN
      rw [hlgg.out] at l2 hq1 HN
      have hq2 : Hid (dlE ls ld lg dp G.length = q) := by show _ = _; rw [← hq1]; exact hq.out
      have llt2 : wr.heap.size ≠ lb := by omega
      clear LL hgd hlg hls hld hlgg hq1
      go_wp2_with fail
      refine (checkDiveLeg_any ls ld lg dp G.length q _ (by omega) hq2).mono ?_
      rintro e w2 ⟨rfl, h2⟩
      have hB2 : Below wr.heap.size wr w2 := by rw [← h2]; (repeat (first | (with_reducible refine Below.drew ?_) | (with_reducible refine below_drewN ?_ _) | (with_reducible refine Below.alloc ?_ (by first | omega | (simp; done) | (simp; omega) | (simp at *; omega)) _) | (with_reducible refine Below.setCell ?_ (by first | omega | (simp; done) | (simp; omega) | (simp at *; omega)) _) | (with_reducible exact Below.refl _ _) | (with_reducible assumption) | (with_reducible refine Below.trans ?_ (Below.mono (by assumption) (by first | omega | (simp; done) | (simp; omega) | (simp at *; omega))))))
      have s2 : wr.heap.size < w2.heap.size := by rw [← h2]; simp; omega
      have d0 : w2.cell? ⟨wr.heap.size, 0, none⟩ = some (.int .i64 ls) := by rw [← h2]; simp [go_sem, World.cell?_alloc_past]
      have d1 : w2.cell? ⟨wr.heap.size, 1, none⟩ = some (.int .i64 ld) := by rw [← h2]; simp [go_sem, World.cell?_alloc_past]
      have d2 : w2.cell? ⟨wr.heap.size, 2, none⟩ = some (.int .i64 lg) := by rw [← h2]; simp [go_sem, World.cell?_alloc_past]
      clear h2
      replace c1 := (hB2.cell (p := ⟨w.heap.size, 1, none⟩) o2).trans c1
      replace c2 := (hB2.cell (p := ⟨w.heap.size, 2, none⟩) o2).trans c2
      replace c3 := (hB2.cell (p := ⟨w.heap.size, 3, none⟩) o2).trans c3
      rcases ez2 q with ⟨gz, gb⟩ | ⟨gz, gb⟩
      rotate_left
      · have hT2 : Hid (totE s G L = q) := by
          have h1 : errAt L G.length k ≠ 0 := by rw [hq.out]; exact gz.out
          show _ = _
          rw [hT.out, fstN_at hkl hz.out h1, hq.out]
        have hne : Hid (totE s G L ≠ 0) := by show _ ≠ _; rw [hT2.out]; exact gz.out
        have hBf : Below w.heap.size w w2 := hBr.trans (hB2.mono hBr.size)
        clear gz hq hq2 hT hz HN
        go_wp2
        go_ret2
        exact ⟨hBf, Or.inl ⟨hne.out, by rw [hT2.out]; rfl⟩⟩
      have hz2 : Hid (fstN (errAt L G.length) (k + 1) = 0) := fstN_s hz.out (hq.out.trans gz.out)
      obtain ⟨b1, b2, b3, b4⟩ := dlE_ok (hq2.out.trans gz.out)
      have hld : inB ld 0 30000 = true := inB_true b2.1 b2.2
      have hdd : inB dp 0 30000 = true := inB_true db1 db2
      obtain ⟨gn, hgn⟩ : ∃ n : Nat, lg = n := ⟨lg.toNat, by omega⟩
      subst hgn
      rw [Int.toNat_natCast] at HN
      have hgl : gn < G.length := by omega
      have hgl2 : (gn : Int) < G.length := by omega
      rcases HG1.out with hnil | ⟨gb', go, hAA, glt1, GG1⟩
      · rw [hnil] at hgl; simp at hgl
      have GG := GG1.below hB glt1
      have glt : gb' < wr.heap.size := by omega
      clear GG1
      subst hAA
      obtain ⟨g0, g1⟩ := GG gn hgl
      have hgd : G.getD gn default = G[gn] := getD_is hgl
      rw [hgd] at HN
      obtain ⟨go', hgo⟩ : ∃ z, Hid (G[gn].o = z) := ⟨G[gn].o, Lib.hid rfl⟩
      obtain ⟨gh', hgh⟩ : ∃ z, Hid (G[gn].h = z) := ⟨G[gn].h, Lib.hid rfl⟩
      rw [hgo.out] at g0 HN
      rw [hgh.out] at g1 HN
      replace g0 := (hB2.cell (p := ⟨gb', go + gn * 2, none⟩) glt).trans g0
      replace g1 := (hB2.cell (p := ⟨gb', go + gn * 2 + 1, none⟩) glt).trans g1
      obtain ⟨x1, hx1⟩ : ∃ z, Hid (s + dp = z) := ⟨_, rfl⟩
      obtain ⟨x2, hx2⟩ : ∃ z, Hid (s + ld = z) := ⟨_, rfl⟩
      rw [hx1.out, hx2.out] at HN
      have lw2 : lb < w2.heap.size := by omega
      have gw2 : gb' < w2.heap.size := by omega
      have ow2 : w.heap.size < w2.heap.size := by omega
      clear GG hgd hgo hgh gz hq hq2 hz l0 l1 l2 b1 b4 HGr
      go_wp2_with fail
      refine (PressureAt_is s dp x1 _ p1 hdd hx1).mono ?_
      rintro e w3 ⟨rfl, hb3⟩
      replace c1 := (hb3.cell (p := ⟨w.heap.size, 1, none⟩) ow2).trans c1
      replace c2 := (hb3.cell (p := ⟨w.heap.size, 2, none⟩) ow2).trans c2
      replace c3 := (hb3.cell (p := ⟨w.heap.size, 3, none⟩) ow2).trans c3
      replace d0 := (hb3.cell (p := ⟨wr.heap.size, 0, none⟩) s2).trans d0
      replace d1 := (hb3.cell (p := ⟨wr.heap.size, 1, none⟩) s2).trans d1
      replace d2 := (hb3.cell (p := ⟨wr.heap.size, 2, none⟩) s2).trans d2
      replace g0 := (hb3.cell (p := ⟨gb', go + gn * 2, none⟩) gw2).trans g0
      replace g1 := (hb3.cell (p := ⟨gb', go + gn * 2 + 1, none⟩) gw2).trans g1
      have s3 := hb3.size
      have hB3 : Below wr.heap.size wr w3 := hB2.trans (hb3.mono hB2.size)
      have ow3 : w.heap.size < w3.heap.size := by omega
      have rw3 : wr.heap.size < w3.heap.size := by omega
      have gw3 : gb' < w3.heap.size := by omega
      clear hb3 hB2
      go_wp2_with fail
      refine (PressureAt_is s ld x2 _ p1 hld hx2).mono ?_
      rintro e w4 ⟨rfl, hb4⟩
      replace c1 := (hb4.cell (p := ⟨w.heap.size, 1, none⟩) ow3).trans c1
      replace c2 := (hb4.cell (p := ⟨w.heap.size, 2, none⟩) ow3).trans c2
      replace c3 := (hb4.cell (p := ⟨w.heap.size, 3, none⟩) ow3).trans c3
      replace d0 := (hb4.cell (p := ⟨wr.heap.size, 0, none⟩) rw3).trans d0
      replace d1 := (hb4.cell (p := ⟨wr.heap.size, 1, none⟩) rw3).trans d1
      replace d2 := (hb4.cell (p := ⟨wr.heap.size, 2, none⟩) rw3).trans d2
      replace g0 := (hb4.cell (p := ⟨gb', go + gn * 2, none⟩) gw3).trans g0
      replace g1 := (hb4.cell (p := ⟨gb', go + gn * 2 + 1, none⟩) gw3).trans g1
      have s4 := hb4.size
      have hB4 : Below wr.heap.size wr w4 := hB3.trans (hb4.mono hB3.size)
      have ow4 : w.heap.size < w4.heap.size := by omega
      have rw4 : wr.heap.size < w4.heap.size := by omega
      have gw4 : gb' < w4.heap.size := by omega
      clear hb4 hB3
      go_upto_region 14 with (fail)
      have HS : Hid (∀ w', Below w4.heap.size w4 w' → w'.cell? ⟨w.heap.size, 2, none⟩ = some (.slice (some ⟨gb', go, none⟩) G.length cap) ∧ w'.cell? ⟨wr.heap.size, 0, none⟩ = some (.int .i64 ls) ∧ w'.cell? ⟨wr.heap.size, 1, none⟩ = some (.int .i64 ld) ∧ w'.cell? ⟨wr.heap.size, 2, none⟩ = some (.int .i64 gn) ∧ w'.cell? ⟨gb', go + gn * 2, none⟩ = some (.int .i64 go') ∧ w'.cell? ⟨gb', go + gn * 2 + 1, none⟩ = some (.int .i64 gh')) := fun w' hb => ⟨(hb.cell (p := ⟨w.heap.size, 2, none⟩) ow4).trans c2, (hb.cell (p := ⟨wr.heap.size, 0, none⟩) rw4).trans d0, (hb.cell (p := ⟨wr.heap.size, 1, none⟩) rw4).trans d1, (hb.cell (p := ⟨wr.heap.size, 2, none⟩) rw4).trans d2, (hb.cell (p := ⟨gb', go + gn * 2, none⟩) gw4).trans g0, (hb.cell (p := ⟨gb', go + gn * 2 + 1, none⟩) gw4).trans g1⟩
      clear c1 c2 c3 d0 d1 d2 g0 g1
      refine wp_region_held_drew (S := (fun w' => w'.cell? ⟨w.heap.size, 2, none⟩ = some (.slice (some ⟨gb', go, none⟩) G.length cap) ∧ w'.cell? ⟨wr.heap.size, 0, none⟩ = some (.int .i64 ls) ∧ w'.cell? ⟨wr.heap.size, 1, none⟩ = some (.int .i64 ld) ∧ w'.cell? ⟨wr.heap.size, 2, none⟩ = some (.int .i64 gn) ∧ w'.cell? ⟨gb', go + gn * 2, none⟩ = some (.int .i64 go') ∧ w'.cell? ⟨gb', go + gn * 2 + 1, none⟩ = some (.int .i64 gh'))) (by kernel_rfl) (by exact HS.out _ (Below.refl w4.heap.size w4).drew) (fun hHeld => ?_)
      have hB0 : Below w4.heap.size w4 w4.drew := (Below.refl w4.heap.size w4).drew
      generalize hdr : w4.drew = u0 at *
      have s04 : wr.heap.size ≤ w4.heap.size := by omega
      clear hdr
      refine wpAnyH_take (i := 0) (oi := ⟨some 50, _, _, _, _, _⟩) (v := ?_) rfl (by kernel_rfl) (by kernel_rfl) (by kernel_rfl) (fun _ _ _ h => h) (Or.inl ⟨by kernel_rfl, ?_⟩) (by assumption) ?_
      rotate_left
      · (intro w hSw; (try dsimp only at hSw); go_simp; all_goals with_reducible rfl)
      try simp only [Act.put, List.setIfInBounds_toArray, List.set_cons_zero, List.set_cons_succ]
      refine wpAnyH_take (i := 1) (oi := ⟨some 51, _, _, _, _, _⟩) (v := ?_) rfl (by kernel_rfl) (by kernel_rfl) (by kernel_rfl) (fun _ _ _ h => h) (Or.inl ⟨by kernel_rfl, ?_⟩) (by assumption) ?_
      rotate_left
      · (intro w hSw; (try dsimp only at hSw); go_simp; all_goals with_reducible rfl)
      try simp only [Act.put, List.setIfInBounds_toArray, List.set_cons_zero, List.set_cons_succ]
      refine wpAnyH_take (i := 2) (oi := ⟨some 52, _, _, _, _, _⟩) (v := ?_) rfl (by kernel_rfl) (by kernel_rfl) (by kernel_rfl) (fun _ _ _ h => h) (Or.inl ⟨by kernel_rfl, ?_⟩) (by assumption) ?_
      rotate_left
      · (intro w hSw; (try dsimp only at hSw); go_simp; all_goals with_reducible rfl)
      try simp only [Act.put, List.setIfInBounds_toArray, List.set_cons_zero, List.set_cons_succ]
      refine wpAnyH_take (i := 3) (oi := ⟨some 53, _, _, _, _, _⟩) (v := ?_) rfl (by kernel_rfl) (by kernel_rfl) (by kernel_rfl) (fun _ _ _ h => h) (Or.inl ⟨by kernel_rfl, ?_⟩) (by assumption) ?_
      rotate_left
      · (intro w hSw; (try dsimp only at hSw); go_simp; all_goals with_reducible rfl)
      try simp only [Act.put, List.setIfInBounds_toArray, List.set_cons_zero, List.set_cons_succ]
      refine wpAnyH_take (i := 4) (oi := ⟨some 54, _, _, _, _, _⟩) (v := ?_) rfl (by kernel_rfl) (by kernel_rfl) (by kernel_rfl) (fun _ _ _ h => h) (Or.inl ⟨by kernel_rfl, ?_⟩) (by assumption) ?_
      rotate_left
      · (intro w hSw; (try dsimp only at hSw); go_simp; all_goals with_reducible rfl)
      try simp only [Act.put, List.setIfInBounds_toArray, List.set_cons_zero, List.set_cons_succ]
      refine wpAnyH_take (i := 5) (oi := ⟨some 55, _, _, _, _, _⟩) (v := ?_) rfl (by kernel_rfl) (by kernel_rfl) (by kernel_rfl) (fun _ _ _ h => h) (Or.inl ⟨by kernel_rfl, ?_⟩) (by assumption) ?_
      rotate_left
      · (intro w hSw; (try dsimp only at hSw); go_simp; all_goals with_reducible rfl)
      try simp only [Act.put, List.setIfInBounds_toArray, List.set_cons_zero, List.set_cons_succ]
      refine wpAnyH_take (i := 6) (oi := ⟨some 56, _, _, _, _, _⟩) (v := ?_) rfl (by kernel_rfl) (by kernel_rfl) (by kernel_rfl) (fun _ _ _ h => h) (Or.inl ⟨by kernel_rfl, ?_⟩) (by assumption) ?_
      rotate_left
      · (intro w hSw; (try dsimp only at hSw); go_simp; all_goals with_reducible rfl)
      try simp only [Act.put, List.setIfInBounds_toArray, List.set_cons_zero, List.set_cons_succ]
      refine wpAnyH_take (i := 7) (oi := ⟨some 57, _, _, _, _, _⟩) (v := ?_) rfl (by kernel_rfl) (by kernel_rfl) (by kernel_rfl) (fun _ _ _ h => h) (Or.inl ⟨by kernel_rfl, ?_⟩) (by assumption) ?_
      rotate_left
      · (intro w hSw; (try dsimp only at hSw); go_simp; all_goals with_reducible rfl)
      try simp only [Act.put, List.setIfInBounds_toArray, List.set_cons_zero, List.set_cons_succ]
      refine wpAnyH_take (i := 8) (oi := ⟨some 58, _, _, _, _, _⟩) (v := ?_) rfl (by kernel_rfl) (by kernel_rfl) (by kernel_rfl) (fun _ _ _ h => h) (Or.inl ⟨by kernel_rfl, ?_⟩) (by assumption) ?_
      rotate_left
      · (intro w hSw; (try dsimp only at hSw); go_simp; all_goals with_reducible rfl)
      try simp only [Act.put, List.setIfInBounds_toArray, List.set_cons_zero, List.set_cons_succ]
      refine wpAnyH_take (i := 9) (oi := ⟨some 59, _, _, _, _, _⟩) (v := ?_) rfl (by kernel_rfl) (by kernel_rfl) (by kernel_rfl) (fun _ _ _ h => h) (Or.inl ⟨by kernel_rfl, ?_⟩) (by assumption) ?_
      rotate_left
      · (intro w hSw; (try dsimp only at hSw); go_simp; all_goals with_reducible rfl)
      try simp only [Act.put, List.setIfInBounds_toArray, List.set_cons_zero, List.set_cons_succ]
      refine wpAnyH_take (i := 10) (oi := ⟨some 60, _, _, _, _, _⟩) (v := ?_) rfl (by kernel_rfl) (by kernel_rfl) (by kernel_rfl) (fun _ _ _ h => h) (Or.inl ⟨by kernel_rfl, ?_⟩) (by assumption) ?_
      rotate_left
      · (intro w hSw; (try dsimp only at hSw); go_simp; all_goals with_reducible rfl)
      try simp only [Act.put, List.setIfInBounds_toArray, List.set_cons_zero, List.set_cons_succ]
      refine wpAnyH_take (i := 11) (oi := ⟨some 61, _, _, _, _, _⟩) (v := ?_) rfl (by kernel_rfl) (by kernel_rfl) (by kernel_rfl) (fun _ _ _ h => h) (Or.inl ⟨by kernel_rfl, ?_⟩) (by assumption) ?_
      rotate_left
      · (intro w hSw; (try dsimp only at hSw); go_simp; all_goals with_reducible rfl)
      try simp only [Act.put, List.setIfInBounds_toArray, List.set_cons_zero, List.set_cons_succ]
      refine wpAnyH_ready (rs := [12]) (by kernel_rfl) (by simp) ?_
      refine AllReadyH.cons rfl (fun K hK => ?_) AllReadyH.nil
      go_simp
      go_wp2_with fail
      refine hK.out _ _ (HS.out _ (hB0.alloc hB0.size _)) (fun hHeld => ?_)
      clear hK K
      try simp only [Act.put, List.setIfInBounds_toArray, List.set_cons_zero, List.set_cons_succ]
      refine wpAnyH_ready (rs := [13]) (by kernel_rfl) (by simp) ?_
      refine AllReadyH.cons rfl (fun K hK => ?_) AllReadyH.nil
      rw [if_pos (by kernel_rfl)]
      have su0 := hB0.size
      have HO5 := Lib.hid (own_below HO.out (hB4.trans (hB0.mono s04)) (Nat.le_refl _))
      refine oper_append_own_at _ _ 73 rfl w1.heap.size 52 i0 (.agg #[.int .i64 0, .int .i64 0, .int .i64 0, .int .i64 0, .int .i64 0]) 5 40 Try.underlying73 HI.out HZ0.out HZ1.out HZ2.out rfl (by decide) _ _ _ rfl (HO5.out.alloc _) ⟨u0.heap.size, 0, none⟩ 1 1 [.int .i64 x1, .int .i64 x2, .int .i64 ls, .int .i64 go', .int .i64 gh'] rfl rfl ?c0 ?c1 ?c2 ?c3 ?c4 ?_
      case c0 =>
        intro j u hj
        match j, hj with
        | 0, hj => simp at hj; subst hj; simp [Addr.add, go_sem]
        | 1, hj => simp at hj; subst hj; simp [Addr.add, go_sem]
        | 2, hj => simp at hj; subst hj; simp [Addr.add, go_sem]
        | 3, hj => simp at hj; subst hj; simp [Addr.add, go_sem]
        | 4, hj => simp at hj; subst hj; simp [Addr.add, go_sem]
      case c1 => intro u hu; simp at hu; rcases hu with rfl | rfl | rfl | rfl | rfl <;> rfl
      case c2 => unfold maxLen; omega
      case c3 => omega
      case c4 => simp; omega
      intro v' w5 hown hgrow
      have ob := HO.out.lt
      obtain ⟨t0, t1, t2, t3, t4, t5⟩ := HS.out _ (hB0.alloc (o := .cells #[.int .i64 x1, .int .i64 x2, .int .i64 ls, .int .i64 go', .int .i64 gh'] 52) hB0.size)
      have ne1 : some w.heap.size ≠ u5.ownBlock := fun e => by have := ob _ e.symm; omega
      have ne2 : some wr.heap.size ≠ u5.ownBlock := fun e => by have := ob _ e.symm; omega
      have ne3 : some gb' ≠ u5.ownBlock := fun e => by have := ob _ e.symm; omega
      have r0 := hgrow.cell t0 ne1
      have r1 := hgrow.cell t1 ne2
      have r2 := hgrow.cell t2 ne2
      have r3 := hgrow.cell t3 ne2
      have r4 := hgrow.cell t4 ne3
      have r5 := hgrow.cell t5 ne3
      have hBu : Below w1.heap.size w1 u0 := hB.trans ((hB4.trans (hB0.mono s04)).mono sz)
      have hB5 : Below w1.heap.size w1 w5 := (hBu.alloc hBu.size _).grown hgrow (by have := hBu.size; simp; omega) (fun k hk => (ob k hk).1)
      have HOW : Hid (w5.ownsRow w1.heap.size 52 5 v' (k + 1) (tlc (legsV s G L (k + 1)))) := by
        show World.ownsRow _ _ _ _ _ _ _
        rw [HN.out]
        exact hown
      have hSz : w1.heap.size ≤ w5.heap.size := hB5.size
      clear hown hgrow ob t0 t1 t2 t3 t4 t5 ne1 ne2 ne3 HO HO5 HN hBu
      refine hK.out _ _ ⟨r0, r1, r2, r3, r4, r5⟩ (fun hHeld => ?_)
      clear hK K
      try simp only [Act.put, List.setIfInBounds_toArray, List.set_cons_zero, List.set_cons_succ]
      refine wpAnyH_take (i := 14) (oi := ⟨some 5, _, _, _, _, _⟩) (v := ?_) rfl (by kernel_rfl) (by kernel_rfl) (by kernel_rfl) (fun _ _ _ h => h) (Or.inl ⟨by kernel_rfl, ?_⟩) (by assumption) ?_
      rotate_left
      · (intro w hSw; (try dsimp only at hSw); go_simp; all_goals with_reducible rfl)
      try simp only [Act.put, List.setIfInBounds_toArray, List.set_cons_zero, List.set_cons_succ]
      refine wpAnyH_done (by kernel_rfl) ?_ _
      go_wp2
      go_roundw
      case rel => exact ⟨k + 1, by omega, by go_num, by rw [hds.out], hz2, HOW, hB5⟩
      case measure => (simp [intOf]) <;> omega
    · have hkl2 : ¬ (k : Int) < L.length := by omega
      have hkk : k = L.length := by omega
      have hT2 : Hid (totE s G L = 0) := by show _ = _; rw [hT.out, ← hkk]; exact hz.out
      have HO2 := HO.out
      rw [hkk] at HO2
      have hle := legsV_len s G L L.length
      obtain ⟨A', cap2, rfl, hS, _⟩ := SlTl_own (P := legsV s G L L.length) (by rw [hle]; exact HO2)
      rw [hle]
      have HS := Lib.hid hS
      clear HO HO2 hS hkk hz hle
      go_wp2
      go_ret2
      exact ⟨hBr, Or.inr ⟨hT2.out, A', cap2, rfl, HS.out⟩⟩
end Go.Proofs.Ytbdiljbjddppcaa
