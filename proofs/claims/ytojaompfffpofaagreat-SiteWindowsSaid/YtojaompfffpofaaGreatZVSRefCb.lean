import Derived.Test.YtojaompfffpofaaGreatZVSRefCm
import Derived.Test.YtojaompfffpofaaGreatZVSRefWn
import Derived.BigQuiet
import Derived.Outline
namespace Go.Proofs.YtojaompfffpofaaGreat
open Go.ChangeShapes Go.WideShapes Go.ChangeAt Go.RowKit
set_option linter.unusedVariables false
set_option linter.unusedSimpArgs false
attribute [local go_sem ↓] Go.wp_at_zero Go.wp_at_succ
/-- Where the numbers of a list lie. -/
theorem int_at {w : World} {A : Option Addr} {l : List Int} (h : SlRows intV 1 w A l) {k : Nat} (hk : k < l.length) : ∃ b off, A = some ⟨b, off, none⟩ ∧ b < w.heap.size ∧ w.cell? ⟨b, off + k, none⟩ = some (.int .i64 (l.getD k 0)) := by
  rcases h with h0 | ⟨b, off, e, hlt, hR⟩
  · rw [h0] at hk; simp at hk
  · refine ⟨b, off, e, hlt, ?_⟩
    have := hR k hk 0 (by omega)
    rw [List.getD_eq_getElem?_getD, List.getElem?_eq_getElem hk]
    simpa [intV] using this
theorem oper_app_any {P : Program} {w : World} {o : Oper} {a : Act} {K : Act → World → Prop} {Q : Exit → Act → World → Prop} (s x : Operand) (t : TypeId)
    (ho : o.op = .call { callee := .builtin .append, args := #[s, x], argTypes := #[t, t] })
    (base : Nat) (e : TypeId) (i : TypeInfo) (z : Value) (size bytes : Nat) (ht : P.underlying t = some (.slice e)) (hi : P.info? e = some i) (hz : i.zero = some z)
    (hsize : i.size = size) (hby : i.bytes = bytes) (hzs : z.cells.size = size) (hsz : 0 < size)
    (v : Value) (n : Nat) (xs : List Value) (hs : a.eval s = v) (hown : w.ownsRow base e size v n xs)
    (ad : Addr) (m c : Nat) (news : List Value) (hx : a.eval x = .slice (some ad) m c) (hl : news.length = m * size) (hnews : ∀ j u, news[j]? = some u → w.cell? (ad.add j) = some u) (h1 : ∀ u ∈ news, u.oneCell' = true)
    (h63 : n + m ≤ maxLen) (hbytes : (n + m) * bytes ≤ 140737488355328) (hbase : base ≤ w.heap.size)
    (h : ∀ v' w', w'.ownsRow base e size v' (n + m) (xs ++ news) → w.grownBy w' v.ownBlock → (∀ k, v'.ownBlock = some k → v.ownBlock = some k ∨ w.heap.size ≤ k) → K (a.put o.dst v') w') : o.wp P a w K Q :=
  oper_append_sl s x t ho base e i z size bytes ht hi hz hsize hby hzs hsz v n xs hs hown (some ad) m c news hx (fun h => by cases h) hl (fun ad' h => by cases h; exact hnews) h1 h63 hbytes hbase h
theorem own_drewN {w : World} {base : Nat} {e : TypeId} {s n N : Nat} {v : Value} {xs : List Value} (h : w.ownsRow base e s v n xs) : (w.drewN N).ownsRow base e s v n xs :=
  own_below h (below_drewN (Below.refl _ _) _) (Nat.le_refl _)
set_option maxRecDepth 100000 in
set_option maxHeartbeats 4000000 in
theorem refCombM_is (LA LB : List Rg) (A B : Option Addr) (na nb ca cb : Nat) (w : World) (hna : Hid (na = LA.length)) (hnb : Hid (nb = LB.length)) (hN0 : na + nb ≤ 30) (HA : Hid (∀ w' : World, Below w.heap.size w w' → SlRows rgV 2 w' A LA)) (HB : Hid (∀ w' : World, Below w.heap.size w w' → SlRows rgV 2 w' B LB)) (CA : Hid (A = none → na = 0 ∧ ca = 0)) (CB : Hid (B = none → nb = 0 ∧ cb = 0)) (hbd : Hid (∀ x ∈ LA ++ LB, 0 ≤ x.lo ∧ x.lo ≤ x.hi ∧ x.hi ≤ 1000000)) :
    Calls Tryz.prog 82 #[.slice A na ca, .slice B nb cb, .int .i64 2] w (RwP (cmL (fun m => inW LA m && inW LB m) (stpL (mks (LA ++ LB))) ((stpL (mks (LA ++ LB))).length - 1)) w) := by
  obtain ⟨j0, ji, jz0, jz1, jz2⟩ := info_partsS infoRg
  have JI := Lib.hid ji
  have JZ0 := Lib.hid jz0
  have JZ1 := Lib.hid jz1
  have JZ2 := Lib.hid jz2
  clear ji jz0 jz1 jz2
  obtain ⟨c, hc⟩ : ∃ c : Int → Bool, c = fun m => inW LA m && inW LB m := ⟨_, rfl⟩
  rw [← hc]
  have HC : Hid (∀ m, c m = (inW LA m && inW LB m)) := Lib.hid fun m => by rw [hc]
  clear hc
  obtain ⟨l, hl⟩ : ∃ l, Hid (stpL (mks (LA ++ LB)) = l) := ⟨_, Lib.hid rfl⟩
  obtain ⟨q, hq⟩ : ∃ q, Hid (l.length = q) := ⟨_, Lib.hid rfl⟩
  rw [hl.out, hq.out]
  go_enter Tryz.func82, Tryz.ntmps82
  go_wp2_with fail
  refine (refSteps_is LA LB A B na nb ca cb _ hna hnb hN0 HA HB CA CB hbd).mono ?_
  rintro e wa ⟨G0, c0, rfl, hS0, hb0⟩
  have hAsc : Asc l := by rw [← hl.out]; exact (stpL_is _).1
  have hlen : l.length ≤ 60 := by rw [← hl.out]; have := stpL_len (mks (LA ++ LB)); rw [mks_len, List.length_append, ← hna.out, ← hnb.out] at this; omega
  have hbnd : ∀ k, k < l.length → 0 ≤ l.getD k 0 ∧ l.getD k 0 ≤ 1000001 := by
    intro k hk
    have hm : l.getD k 0 ∈ stpL (mks (LA ++ LB)) := by
      rw [hl.out, List.getD_eq_getElem?_getD, List.getElem?_eq_getElem hk]; exact List.getElem_mem _
    rw [(stpL_is _).2] at hm
    obtain ⟨r, hr, hx⟩ := List.mem_flatMap.1 hm
    have := hbd.out r hr
    rw [List.mem_cons, List.mem_singleton] at hx
    rcases hx with h | h <;> omega
  have HASC := Lib.hid hAsc
  have HBND := Lib.hid hbnd
  rw [hl.out] at hS0 ⊢
  rw [hq.out] at hlen ⊢
  have HROW : Hid (∀ x, Below wa.heap.size wa x → SlRows intV 1 x G0 l) := Lib.hid fun x hx => hS0.below hx
  have hBw : Below w.heap.size w wa := (by (repeat (first | (with_reducible refine Below.drew ?_) | (with_reducible refine below_drewN ?_ _) | (with_reducible refine Below.alloc ?_ (by first | omega | (simp; done) | (simp; omega) | (simp at *; omega)) _) | (with_reducible refine Below.setCell ?_ (by first | omega | (simp; done) | (simp; omega) | (simp at *; omega)) _) | (with_reducible exact Below.refl _ _) | (with_reducible assumption) | (with_reducible refine Below.trans ?_ (Below.mono (by assumption) (by first | omega | (simp; done) | (simp; omega) | (simp at *; omega)))))))
  have HBW := Lib.hid hBw
  have HXA : Hid (∀ x, Below wa.heap.size wa x → SlRows rgV 2 x A LA) := Lib.hid fun x hx => HA.out _ (hBw.trans (hx.mono hBw.size))
  have HXB : Hid (∀ x, Below wa.heap.size wa x → SlRows rgV 2 x B LB) := Lib.hid fun x hx => HB.out _ (hBw.trans (hx.mono hBw.size))
  clear hS0 hb0 hBw hAsc hbnd
  go_wp2
  go_loopw [8, 9] (fun st i wr => ∃ (k r : Nat) (G : Option Addr) (cg : Nat), st = .slice G r cg ∧ i = .int .i64 k ∧ k ≤ q ∧ r ≤ k ∧ (k = 0 ∨ k + 1 ≤ q) ∧ Hid ((cmL c l k).length = r) ∧ Hid (wr.ownsRow wa.heap.size 26 2 (.slice G r cg) r (rowsV rgV (cmL c l k))) ∧ Below wa.heap.size wa wr) (fun _ i _ => q - (intOf i).toNat)
  case atStart => exact ⟨0, 0, none, 0, rfl, rfl, by omega, by omega, Or.inl rfl, Lib.hid rfl, Lib.hid ⟨rfl, .inl ⟨rfl, rfl⟩⟩, (by (repeat (first | (with_reducible refine Below.drew ?_) | (with_reducible refine below_drewN ?_ _) | (with_reducible refine Below.alloc ?_ (by first | omega | (simp; done) | (simp; omega) | (simp at *; omega)) _) | (with_reducible refine Below.setCell ?_ (by first | omega | (simp; done) | (simp; omega) | (simp at *; omega)) _) | (with_reducible exact Below.refl _ _) | (with_reducible assumption) | (with_reducible refine Below.trans ?_ (Below.mono (by assumption) (by first | omega | (simp; done) | (simp; omega) | (simp at *; omega)))))))⟩
  case round =>
    obtain ⟨k, r, G, cg, rfl, rfl, hk, hrk, hkq, hst, HO, hB⟩ := hrel
    have hsz := hB.size
    have ek : IntKind.i64.wrap ((k : Int) + 1) = (k : Int) + 1 := IntWalk.i64_in _ (by omega)
    by_cases hkn : k + 1 < q
    · have kn : (k : Int) + 1 < (q : Int) := by omega
      have kn0 : (k : Int) < (q : Int) := by omega
      have e1 : ((k : Int) + 1).toNat = k + 1 := by omega
      have e2 : (0 : Int) ≤ (k : Int) + 1 := by omega
      have hx0 : k < l.length := by rw [hq.out]; omega
      have hx1 : k + 1 < l.length := by rw [hq.out]; omega
      obtain ⟨b, off, rfl, hlt, f0⟩ := int_at (HROW.out _ hB) hx0
      obtain ⟨b', off', eb, _, f1⟩ := int_at (HROW.out _ hB) hx1
      injection eb with eb
      injection eb with eb1 eb2
      subst eb1 eb2
      obtain ⟨b0, b1⟩ := HBND.out k hx0
      obtain ⟨b2, b3⟩ := HBND.out (k + 1) hx1
      have hasc := asc_at HASC.out (show k < k + 1 by omega) hx1
      obtain ⟨x, hx⟩ : ∃ x, Hid (l.getD k 0 = x) := ⟨_, Lib.hid rfl⟩
      obtain ⟨y, hy⟩ : ∃ y, Hid (l.getD (k + 1) 0 = y) := ⟨_, Lib.hid rfl⟩
      rw [hx.out] at f0 b0 b1 hasc
      rw [hy.out] at f1 b2 b3 hasc
      have HCELL : Hid (∀ z, Below wr.heap.size wr z → z.cell? ⟨b, off + k, none⟩ = some (.int .i64 x) ∧ z.cell? ⟨b, off + (k + 1), none⟩ = some (.int .i64 y)) := Lib.hid fun z hz => ⟨(hz.cell (p := ⟨b, off + k, none⟩) hlt).trans f0, (hz.cell (p := ⟨b, off + (k + 1), none⟩) hlt).trans f1⟩
      have HWA : Hid (∀ z, Below wa.heap.size wa z → z.cell? ⟨b, off + k, none⟩ = some (.int .i64 x) ∧ z.cell? ⟨b, off + (k + 1), none⟩ = some (.int .i64 y)) := Lib.hid fun z hz => by
        obtain ⟨p0, p1, ep, _, h0⟩ := int_at (HROW.out _ hz) hx0
        obtain ⟨q0, q1, eq, _, h1⟩ := int_at (HROW.out _ hz) hx1
        injection ep with ep
        injection ep with e1 e2
        injection eq with eq
        injection eq with e3 e4
        subst e1 e2 e3 e4
        rw [hx.out] at h0
        rw [hy.out] at h1
        exact ⟨h0, h1⟩
      have ey : IntKind.i64.wrap (y - 1) = y - 1 := IntWalk.i64_in _ (by omega)
      obtain ⟨pA, hpA⟩ : ∃ p, Hid (inW LA x = p) := ⟨_, Lib.hid rfl⟩
      obtain ⟨pB, hpB⟩ : ∃ p, Hid (inW LB x = p) := ⟨_, Lib.hid rfl⟩
      have hcx : c x = (pA && pB) := by rw [HC.out, hpA.out, hpB.out]
      have HCX := Lib.hid hcx
      clear hcx
      go_wp2_with fail
      refine (refIn_is LA A na ca x pA _ hna (by omega) (Lib.hid (HXA.out _ (by exact (by (repeat (first | (with_reducible refine Below.drew ?_) | (with_reducible refine below_drewN ?_ _) | (with_reducible refine Below.alloc ?_ (by first | omega | (simp; done) | (simp; omega) | (simp at *; omega)) _) | (with_reducible refine Below.setCell ?_ (by first | omega | (simp; done) | (simp; omega) | (simp at *; omega)) _) | (with_reducible exact Below.refl _ _) | (with_reducible assumption) | (with_reducible refine Below.trans ?_ (Below.mono (by assumption) (by first | omega | (simp; done) | (simp; omega) | (simp at *; omega)))))))))) hpA).mono ?_
      rintro e x1 ⟨rfl, hb1⟩
      have hc1 : Below wr.heap.size wr x1 := (by (repeat (first | (with_reducible refine Below.drew ?_) | (with_reducible refine below_drewN ?_ _) | (with_reducible refine Below.alloc ?_ (by first | omega | (simp; done) | (simp; omega) | (simp at *; omega)) _) | (with_reducible refine Below.setCell ?_ (by first | omega | (simp; done) | (simp; omega) | (simp at *; omega)) _) | (with_reducible exact Below.refl _ _) | (with_reducible assumption) | (with_reducible refine Below.trans ?_ (Below.mono (by assumption) (by first | omega | (simp; done) | (simp; omega) | (simp at *; omega)))))))
      obtain ⟨g0, g1⟩ := HCELL.out _ hc1
      clear hb1
      have z1 := hc1.size
      have hB1 : Below wa.heap.size wa x1 := hB.trans (hc1.mono hsz)
      have HIA := hpA
      cases pA with
      | false =>
        cases pB with
        | false =>
          go_wp2_with fail
          refine (refIn_is LB B nb cb x false _ hnb (by omega) (Lib.hid (HXB.out _ (by exact (by (repeat (first | (with_reducible refine Below.drew ?_) | (with_reducible refine below_drewN ?_ _) | (with_reducible refine Below.alloc ?_ (by first | omega | (simp; done) | (simp; omega) | (simp at *; omega)) _) | (with_reducible refine Below.setCell ?_ (by first | omega | (simp; done) | (simp; omega) | (simp at *; omega)) _) | (with_reducible exact Below.refl _ _) | (with_reducible assumption) | (with_reducible refine Below.trans ?_ (Below.mono (by assumption) (by first | omega | (simp; done) | (simp; omega) | (simp at *; omega)))))))))) hpB).mono ?_
          rintro e x2 ⟨rfl, hb2⟩
          have hc2 : Below wr.heap.size wr x2 := hc1.trans (hb2.mono z1)
          obtain ⟨u0, u1⟩ := HCELL.out _ hc2
          have z2 := hc2.size
          have hB2 : Below wa.heap.size wa x2 := hB.trans (hc2.mono hsz)
          have HO2 := Lib.hid (own_below HO.out hc2 (Nat.le_refl _))
          have s2 := hB2.size
          clear hb2 g0 g1 hc1 hB1 z1
          have HS : Hid (cmL c l (k + 1) = cmL c l k) := Lib.hid (by rw [cmL, hx.out, if_neg (by rw [HCX.out]; decide)])
          go_wp2
          go_roundw
          case rel => exact ⟨k + 1, r, G, cg, rfl, by go_num, by omega, by omega, Or.inr (by omega), Lib.hid (by rw [HS.out]; exact hst.out), Lib.hid (by rw [HS.out]; exact HO2.out), hB2⟩
          case measure => (simp [intOf]) <;> omega
        | true =>
          go_wp2_with fail
          refine (refIn_is LB B nb cb x true _ hnb (by omega) (Lib.hid (HXB.out _ (by exact (by (repeat (first | (with_reducible refine Below.drew ?_) | (with_reducible refine below_drewN ?_ _) | (with_reducible refine Below.alloc ?_ (by first | omega | (simp; done) | (simp; omega) | (simp at *; omega)) _) | (with_reducible refine Below.setCell ?_ (by first | omega | (simp; done) | (simp; omega) | (simp at *; omega)) _) | (with_reducible exact Below.refl _ _) | (with_reducible assumption) | (with_reducible refine Below.trans ?_ (Below.mono (by assumption) (by first | omega | (simp; done) | (simp; omega) | (simp at *; omega)))))))))) hpB).mono ?_
          rintro e x2 ⟨rfl, hb2⟩
          have hc2 : Below wr.heap.size wr x2 := hc1.trans (hb2.mono z1)
          obtain ⟨u0, u1⟩ := HCELL.out _ hc2
          have z2 := hc2.size
          have hB2 : Below wa.heap.size wa x2 := hB.trans (hc2.mono hsz)
          have HO2 := Lib.hid (own_below HO.out hc2 (Nat.le_refl _))
          have s2 := hB2.size
          clear hb2 g0 g1 hc1 hB1 z1
          have HS : Hid (cmL c l (k + 1) = cmL c l k) := Lib.hid (by rw [cmL, hx.out, if_neg (by rw [HCX.out]; decide)])
          go_wp2
          go_roundw
          case rel => exact ⟨k + 1, r, G, cg, rfl, by go_num, by omega, by omega, Or.inr (by omega), Lib.hid (by rw [HS.out]; exact hst.out), Lib.hid (by rw [HS.out]; exact HO2.out), hB2⟩
          case measure => (simp [intOf]) <;> omega
      | true =>
        cases pB with
        | false =>
          go_wp2_with fail
          refine (refIn_is LB B nb cb x false _ hnb (by omega) (Lib.hid (HXB.out _ (by exact (by (repeat (first | (with_reducible refine Below.drew ?_) | (with_reducible refine below_drewN ?_ _) | (with_reducible refine Below.alloc ?_ (by first | omega | (simp; done) | (simp; omega) | (simp at *; omega)) _) | (with_reducible refine Below.setCell ?_ (by first | omega | (simp; done) | (simp; omega) | (simp at *; omega)) _) | (with_reducible exact Below.refl _ _) | (with_reducible assumption) | (with_reducible refine Below.trans ?_ (Below.mono (by assumption) (by first | omega | (simp; done) | (simp; omega) | (simp at *; omega)))))))))) hpB).mono ?_
          rintro e x2 ⟨rfl, hb2⟩
          have hc2 : Below wr.heap.size wr x2 := hc1.trans (hb2.mono z1)
          obtain ⟨u0, u1⟩ := HCELL.out _ hc2
          have z2 := hc2.size
          have hB2 : Below wa.heap.size wa x2 := hB.trans (hc2.mono hsz)
          have HO2 := Lib.hid (own_below HO.out hc2 (Nat.le_refl _))
          have s2 := hB2.size
          clear hb2 g0 g1 hc1 hB1 z1
          have HS : Hid (cmL c l (k + 1) = cmL c l k) := Lib.hid (by rw [cmL, hx.out, if_neg (by rw [HCX.out]; decide)])
          go_wp2
          go_roundw
          case rel => exact ⟨k + 1, r, G, cg, rfl, by go_num, by omega, by omega, Or.inr (by omega), Lib.hid (by rw [HS.out]; exact hst.out), Lib.hid (by rw [HS.out]; exact HO2.out), hB2⟩
          case measure => (simp [intOf]) <;> omega
        | true =>
          go_wp2_with fail
          refine (refIn_is LB B nb cb x true _ hnb (by omega) (Lib.hid (HXB.out _ (by exact (by (repeat (first | (with_reducible refine Below.drew ?_) | (with_reducible refine below_drewN ?_ _) | (with_reducible refine Below.alloc ?_ (by first | omega | (simp; done) | (simp; omega) | (simp at *; omega)) _) | (with_reducible refine Below.setCell ?_ (by first | omega | (simp; done) | (simp; omega) | (simp at *; omega)) _) | (with_reducible exact Below.refl _ _) | (with_reducible assumption) | (with_reducible refine Below.trans ?_ (Below.mono (by assumption) (by first | omega | (simp; done) | (simp; omega) | (simp at *; omega)))))))))) hpB).mono ?_
          rintro e x2 ⟨rfl, hb2⟩
          have hc2 : Below wr.heap.size wr x2 := hc1.trans (hb2.mono z1)
          obtain ⟨u0, u1⟩ := HCELL.out _ hc2
          have z2 := hc2.size
          have hB2 : Below wa.heap.size wa x2 := hB.trans (hc2.mono hsz)
          have HO2 := Lib.hid (own_below HO.out hc2 (Nat.le_refl _))
          have s2 := hB2.size
          clear hb2 g0 g1 hc1 hB1 z1
          obtain ⟨V, hV⟩ : ∃ V, Hid (cmL c l k = V) := ⟨_, Lib.hid rfl⟩
          rw [hV.out] at hst HO2
          have hvI := cmL_is c HASC.out k (by omega)
          rw [hV.out] at hvI
          have HCT : c (l.getD k 0) = true := by rw [hx.out, HCX.out]; rfl
          by_cases hr0 : 0 < r
          · have ri : (0 : Int) < (r : Int) := by omega
            have rd : decide ((0 : Int) < (r : Int)) = true := by simpa using ri
            have er : IntKind.i64.wrap ((r : Int) - 1) = (r : Int) - 1 := IntWalk.i64_in _ (by omega)
            have l2 : (0 : Int) ≤ (r : Int) - 1 := by omega
            have l3 : ((r : Int) - 1).toNat = r - 1 := by omega
            have l4 : (r : Int) - 1 < (r : Int) := by omega
            have hne : V ≠ [] := by intro h; rw [h] at hst; have := hst.out; simp at this; omega
            obtain ⟨pv, ⟨va, vh⟩, ev⟩ : ∃ p r, V = p ++ [r] := ⟨_, _, (List.dropLast_concat_getLast hne).symm⟩
            have hvl : V.getD (V.length - 1) default = ⟨va, vh⟩ := by rw [ev]; simp
            have hvh := hvI.hi ⟨va, vh⟩ (by rw [ev]; simp)
            have hvg := hvI.gap.1 ⟨va, vh⟩ (by rw [ev]; simp)
            rw [hx.out] at hvh
            dsimp only at hvh hvg
            have hvlo : -1 ≤ vh := by
              have hmem := (hvI.mem va).1 (inW_iff.2 ⟨⟨va, vh⟩, by rw [ev]; simp, Int.le_refl _, hvg⟩)
              obtain ⟨i, hi, h1, _⟩ := hmem
              have := (HBND.out i (by rw [hq.out]; omega)).1
              omega
            have ew : IntKind.i64.wrap (vh + 1) = vh + 1 := IntWalk.i64_in _ (by omega)
            have hO2 := HO2.out
            obtain ⟨g, rfl, hgb, y0, yf⟩ : ∃ g, G = some ⟨g, 0, none⟩ ∧ wa.heap.size ≤ g ∧ x2.cell? ⟨g, (r - 1) * 2 + 1, none⟩ = some (.int .i64 vh) ∧ x2.frozen? ⟨g, (r - 1) * 2 + 1, none⟩ = false := by
              rcases hO2.2 with ⟨hv, h0⟩ | ⟨g, cap', cur, hv, hg, hh, hle, hcap, hs, ht⟩
              · omega
              · injection hv with e1 e2 e3
                refine ⟨g, e1, hg, ?_, by simp [World.frozen?, hh]⟩
                have hlr : (r - 1) * 2 + 1 < r * 2 := by omega
                have h1 : (cur.toList.take (r * 2))[(r - 1) * 2 + 1]? = (rowsV rgV V)[(r - 1) * 2 + 1]? := by rw [ht]
                rw [List.getElem?_take_of_lt hlr, rowsV_at (f := rgV) (n := 2) (fun _ => rfl) (k := r - 1) (by rw [hst.out]; omega) (i := 1) (by omega)] at h1
                have h2 : V[r - 1]'(by rw [hst.out]; omega) = ⟨va, vh⟩ := by
                  have := hvl
                  rw [hst.out, List.getD_eq_getElem?_getD, List.getElem?_eq_getElem (by rw [hst.out]; omega)] at this
                  exact this
                rw [h2] at h1
                simp only [World.cell?, hh]
                simpa [rgV] using h1
            have HO3 := Lib.hid hO2
            clear hO2
            by_cases hjn : vh + 1 = x
            · have hjb : (vh + 1 == x) = true := by simp [hjn]
              have HS : Hid (cmL c l (k + 1) = setHi V (y - 1)) := Lib.hid (by rw [cmL, hV.out, if_pos HCT, hx.out, hy.out, if_pos (by unfold joinB; rw [hvl, hst.out]; simp [hjn]; omega)])
              have HRW := Lib.hid (rowsV_setHi V (y - 1) hne)
              rw [hst.out] at HRW
              have HO4 := Lib.hid (own_set HO3.out (j := (r - 1) * 2 + 1) (by omega) (.int .i64 (y - 1)))
              clear hvI hvh hvg hvl ev hne HCT hjn
              go_upto_region 12 with (fail)
              go_big_quiet (fail)
              go_wp2
              go_roundw
              case rel => exact ⟨k + 1, r, some ⟨g, 0, none⟩, cg, rfl, by go_num, by omega, by omega, Or.inr (by omega), Lib.hid (by rw [HS.out]; simp [setHi, hst.out]), Lib.hid (by rw [HS.out, HRW.out]; exact own_drewN HO4.out), (by (repeat (first | (with_reducible refine Below.drew ?_) | (with_reducible refine below_drewN ?_ _) | (with_reducible refine Below.alloc ?_ (by first | omega | (simp; done) | (simp; omega) | (simp at *; omega)) _) | (with_reducible refine Below.setCell ?_ (by first | omega | (simp; done) | (simp; omega) | (simp at *; omega)) _) | (with_reducible exact Below.refl _ _) | (with_reducible assumption) | (with_reducible refine Below.trans ?_ (Below.mono (by assumption) (by first | omega | (simp; done) | (simp; omega) | (simp at *; omega)))))))⟩
              case measure => (simp [intOf]) <;> omega
            · have hjb : (vh + 1 == x) = false := by simpa using hjn
              have HS : Hid (cmL c l (k + 1) = V ++ [(⟨x, y - 1⟩ : Rg)]) := Lib.hid (by rw [cmL, hV.out, if_pos HCT, hx.out, hy.out, if_neg (by unfold joinB; rw [hvl]; simp [hjn])])
              clear hvI hvh hvg hvl ev hne HCT hjn
              go_upto_region 12 with (fail)
              go_big_quiet (fail)
              have HQ : Hid (∀ z, Below x2.heap.size x2 z → z.cell? ⟨b, off + k, none⟩ = some (.int .i64 x) ∧ z.cell? ⟨b, off + (k + 1), none⟩ = some (.int .i64 y)) := Lib.hid fun z hz => HCELL.out _ (hc2.trans (hz.mono z2))
              have HRW : Hid (rowsV rgV (V ++ [(⟨x, y - 1⟩ : Rg)]) = rowsV rgV V ++ [.int .i64 x, .int .i64 (y - 1)]) := Lib.hid (by rw [rowsV_app]; rfl)
              have HB2 := Lib.hid hB2
              go_upto_region 14 with (fail)
              refine wp_world (fun X => Below x2.heap.size x2 X) (by (repeat (first | (with_reducible refine Below.drew ?_) | (with_reducible refine below_drewN ?_ _) | (with_reducible refine Below.alloc ?_ (by first | omega | (simp; done) | (simp; omega) | (simp at *; omega)) _) | (with_reducible refine Below.setCell ?_ (by first | omega | (simp; done) | (simp; omega) | (simp at *; omega)) _) | (with_reducible exact Below.refl _ _) | (with_reducible assumption) | (with_reducible refine Below.trans ?_ (Below.mono (by assumption) (by first | omega | (simp; done) | (simp; omega) | (simp at *; omega))))))) (fun x3 hx3 => ?_)
              refine wp_region_held_drew (S := (fun w' => w'.cell? ⟨b, off + k, none⟩ = some (.int .i64 x) ∧ w'.cell? ⟨b, off + (k + 1), none⟩ = some (.int .i64 y))) (by kernel_rfl) (by exact HQ.out _ hx3.drew) (fun hHeld => ?_)
              have hT0 : Below x2.heap.size x2 x3.drew := hx3.drew
              generalize hdr : x3.drew = v0 at *
              clear hdr
              refine tkH 0 ⟨some 70, _, _, _, _, _⟩ ?_ rfl ?_ (by assumption) ?_
              rotate_left
              · (intro w hSw; (try dsimp only at hSw); go_simp; all_goals with_reducible rfl)
              try simp only [Act.put, sA, sB, sC]
              refine tkH 1 ⟨some 71, _, _, _, _, _⟩ ?_ rfl ?_ (by assumption) ?_
              rotate_left
              · (intro w hSw; (try dsimp only at hSw); go_simp; all_goals with_reducible rfl)
              try simp only [Act.put, sA, sB, sC]
              refine tkH 2 ⟨some 72, _, _, _, _, _⟩ ?_ rfl ?_ (by assumption) ?_
              rotate_left
              · (intro w hSw; (try dsimp only at hSw); go_simp; all_goals with_reducible rfl)
              try simp only [Act.put, sA, sB, sC]
              refine tkH 3 ⟨some 73, _, _, _, _, _⟩ ?_ rfl ?_ (by assumption) ?_
              rotate_left
              · (intro w hSw; (try dsimp only at hSw); go_simp; all_goals with_reducible rfl)
              try simp only [Act.put, sA, sB, sC]
              refine tkH 4 ⟨some 74, _, _, _, _, _⟩ ?_ rfl ?_ (by assumption) ?_
              rotate_left
              · (intro w hSw; (try dsimp only at hSw); go_simp; all_goals with_reducible rfl)
              try simp only [Act.put, sA, sB, sC]
              refine tkH 5 ⟨some 75, _, _, _, _, _⟩ ?_ rfl ?_ (by assumption) ?_
              rotate_left
              · (intro w hSw; (try dsimp only at hSw); go_simp; all_goals with_reducible rfl)
              try simp only [Act.put, sA, sB, sC]
              refine tkH 6 ⟨some 76, _, _, _, _, _⟩ ?_ rfl ?_ (by assumption) ?_
              rotate_left
              · (intro w hSw; (try dsimp only at hSw); go_simp; all_goals with_reducible rfl)
              try simp only [Act.put, sA, sB, sC]
              refine tkH 7 ⟨some 77, _, _, _, _, _⟩ ?_ rfl ?_ (by assumption) ?_
              rotate_left
              · (intro w hSw; (try dsimp only at hSw); go_simp; all_goals with_reducible rfl)
              try simp only [Act.put, sA, sB, sC]
              refine tkH 8 ⟨some 78, _, _, _, _, _⟩ ?_ rfl ?_ (by assumption) ?_
              rotate_left
              · (intro w hSw; (try dsimp only at hSw); go_simp; all_goals with_reducible rfl)
              try simp only [Act.put, sA, sB, sC]
              refine tkH 9 ⟨some 79, _, _, _, _, _⟩ ?_ rfl ?_ (by assumption) ?_
              rotate_left
              · (intro w hSw; (try dsimp only at hSw); go_simp; all_goals with_reducible rfl)
              try simp only [Act.put, sA, sB, sC]
              refine tkH 10 ⟨some 80, _, _, _, _, _⟩ ?_ rfl ?_ (by assumption) ?_
              rotate_left
              · (intro w hSw; (try dsimp only at hSw); go_simp; all_goals with_reducible rfl)
              try simp only [Act.put, sA, sB, sC]
              refine tkH 11 ⟨some 81, _, _, _, _, _⟩ ?_ rfl ?_ (by assumption) ?_
              rotate_left
              · (intro w hSw; (try dsimp only at hSw); go_simp; all_goals with_reducible rfl)
              try simp only [Act.put, sA, sB, sC]
              refine wpAnyH_ready (rs := [12]) (by kernel_rfl) (by simp) ?_
              refine AllReadyH.cons rfl (fun K hK => ?_) (AllReadyH.nil)
              go_simp
              go_wp2_with fail
              refine hK.out _ _ (HQ.out _ (hT0.alloc hT0.size _)) (fun hHeld => ?_)
              clear hK K
              try simp only [Act.put, sA, sB, sC]
              obtain ⟨bm, ebm⟩ : ∃ x, v0.heap.size = x := ⟨_, rfl⟩
              generalize hq1 : v0.alloc (.cells #[.int .i64 x, .int .i64 (y - 1)] 26) = v1
              have hb1 : Below v0.heap.size v0 v1 := by rw [← hq1]; exact (Below.refl _ _).alloc (Nat.le_refl _) _
              have HM : Hid (v1.cell? ⟨bm, 0, none⟩ = some (.int .i64 x) ∧ v1.cell? ⟨bm, 1, none⟩ = some (.int .i64 (y - 1))) := Lib.hid (by rw [← hq1, ← ebm]; exact ⟨by simp [go_sem], by simp [go_sem]⟩)
              have hT1 : Below x2.heap.size x2 v1 := hT0.trans (hb1.mono hT0.size)
              have HE1 := Lib.hid (own_below HO3.out hT1 (Nat.le_refl _))
              have hW1 : Below wa.heap.size wa v1 := HB2.out.trans (hT1.mono HB2.out.size)
              rw [ebm]
              clear hq1 hb1 hT0
              refine wpAnyH_ready (rs := [13]) (by kernel_rfl) (by simp) ?_
              refine AllReadyH.cons rfl (fun K hK => ?_) (AllReadyH.nil)
              rw [if_pos (by kernel_rfl)]
              refine oper_app_any _ _ 32 rfl wa.heap.size 26 j0 (.agg #[.int .i64 0, .int .i64 0]) 2 16 Tryz.underlying32 JI.out JZ0.out JZ1.out JZ2.out rfl (by decide) _ r (rowsV rgV V) rfl HE1.out ⟨bm, 0, none⟩ 1 1 [.int .i64 x, .int .i64 (y - 1)] rfl rfl ?a0 ?a1 ?a2 ?a3 hW1.size ?_
              case a0 =>
                intro j v hj
                match j, hj with
                | 0, hj => simp at hj; subst hj; exact HM.out.1
                | 1, hj => simp at hj; subst hj; exact HM.out.2
              case a1 => intro v hv; simp at hv; rcases hv with rfl | rfl <;> rfl
              case a2 => unfold maxLen; omega
              case a3 => omega
              intro v' x5 hown hgrow hblk
              have hB5 : Below wa.heap.size wa x5 := hW1.grown hgrow hW1.size (fun r hr => (own_block HE1.out r hr).1)
              have hown2 : x5.ownsRow wa.heap.size 26 2 v' (V ++ [(⟨x, y - 1⟩ : Rg)]).length (rowsV rgV (V ++ [(⟨x, y - 1⟩ : Rg)])) := by rw [HRW.out, List.length_append, hst.out]; exact hown
              obtain ⟨G5, cg5, hv5, _, _, _, _, _⟩ := SlRows_own (f := rgV) (n := 2) (fun _ => rfl) hown2
              rw [List.length_append, hst.out] at hv5
              simp only [List.length_cons, List.length_nil, Nat.zero_add] at hv5
              subst hv5
              have HO5 : Hid (x5.ownsRow wa.heap.size 26 2 (.slice G5 (r + 1) cg5) (r + 1) (rowsV rgV (V ++ [(⟨x, y - 1⟩ : Rg)]))) := Lib.hid (by rw [List.length_append, hst.out] at hown2; exact hown2)
              have HB5 := Lib.hid hB5
              have hsx : x5.cell? ⟨b, off + k, none⟩ = some (.int .i64 x) ∧ x5.cell? ⟨b, off + (k + 1), none⟩ = some (.int .i64 y) := HWA.out _ hB5
              clear hown hown2 hblk hgrow hB5
              refine hK.out _ _ hsx (fun hHeld => ?_)
              clear hK K
              try simp only [Act.put, sA, sB, sC]
              refine tkH 14 ⟨some 8, _, _, _, _, _⟩ ?_ rfl ?_ (by assumption) ?_
              rotate_left
              · (intro w hSw; (try dsimp only at hSw); go_simp; all_goals with_reducible rfl)
              try simp only [Act.put, sA, sB, sC]
              refine wpAnyH_done (by kernel_rfl) ?_ _
              go_wp2
              go_roundw
              case rel => exact ⟨k + 1, r + 1, G5, cg5, rfl, by go_num, by omega, by omega, Or.inr (by omega), Lib.hid (by rw [HS.out]; simp [hst.out]), Lib.hid (by rw [HS.out]; exact HO5.out), HB5.out⟩
              case measure => (simp [intOf]) <;> omega
          · have rr : Hid (r = 0) := Lib.hid (by omega)
            have rd : decide ((0 : Int) < (r : Int)) = false := by rw [rr.out]; rfl
            have rd2 : ¬ (0 : Int) < (r : Int) := by omega
            have HS : Hid (cmL c l (k + 1) = V ++ [(⟨x, y - 1⟩ : Rg)]) := Lib.hid (by rw [cmL, hV.out, if_pos HCT, hx.out, hy.out, if_neg (by unfold joinB; rw [hst.out, rr.out]; simp)])
            have rdn : decide (0 < r) = false := by simpa using hr0
            clear hvI HCT
            go_upto_region 12 with (fail)
            go_big_quiet (fail)
            have HQ : Hid (∀ z, Below x2.heap.size x2 z → z.cell? ⟨b, off + k, none⟩ = some (.int .i64 x) ∧ z.cell? ⟨b, off + (k + 1), none⟩ = some (.int .i64 y)) := Lib.hid fun z hz => HCELL.out _ (hc2.trans (hz.mono z2))
            have HRW : Hid (rowsV rgV (V ++ [(⟨x, y - 1⟩ : Rg)]) = rowsV rgV V ++ [.int .i64 x, .int .i64 (y - 1)]) := Lib.hid (by rw [rowsV_app]; rfl)
            have HB2 := Lib.hid hB2
            go_upto_region 14 with (fail)
            refine wp_world (fun X => Below x2.heap.size x2 X) (by (repeat (first | (with_reducible refine Below.drew ?_) | (with_reducible refine below_drewN ?_ _) | (with_reducible refine Below.alloc ?_ (by first | omega | (simp; done) | (simp; omega) | (simp at *; omega)) _) | (with_reducible refine Below.setCell ?_ (by first | omega | (simp; done) | (simp; omega) | (simp at *; omega)) _) | (with_reducible exact Below.refl _ _) | (with_reducible assumption) | (with_reducible refine Below.trans ?_ (Below.mono (by assumption) (by first | omega | (simp; done) | (simp; omega) | (simp at *; omega))))))) (fun x3 hx3 => ?_)
            refine wp_region_held_drew (S := (fun w' => w'.cell? ⟨b, off + k, none⟩ = some (.int .i64 x) ∧ w'.cell? ⟨b, off + (k + 1), none⟩ = some (.int .i64 y))) (by kernel_rfl) (by exact HQ.out _ hx3.drew) (fun hHeld => ?_)
            have hT0 : Below x2.heap.size x2 x3.drew := hx3.drew
            generalize hdr : x3.drew = v0 at *
            clear hdr
            refine tkH 0 ⟨some 70, _, _, _, _, _⟩ ?_ rfl ?_ (by assumption) ?_
            rotate_left
            · (intro w hSw; (try dsimp only at hSw); go_simp; all_goals with_reducible rfl)
            try simp only [Act.put, sA, sB, sC]
            refine tkH 1 ⟨some 71, _, _, _, _, _⟩ ?_ rfl ?_ (by assumption) ?_
            rotate_left
            · (intro w hSw; (try dsimp only at hSw); go_simp; all_goals with_reducible rfl)
            try simp only [Act.put, sA, sB, sC]
            refine tkH 2 ⟨some 72, _, _, _, _, _⟩ ?_ rfl ?_ (by assumption) ?_
            rotate_left
            · (intro w hSw; (try dsimp only at hSw); go_simp; all_goals with_reducible rfl)
            try simp only [Act.put, sA, sB, sC]
            refine tkH 3 ⟨some 73, _, _, _, _, _⟩ ?_ rfl ?_ (by assumption) ?_
            rotate_left
            · (intro w hSw; (try dsimp only at hSw); go_simp; all_goals with_reducible rfl)
            try simp only [Act.put, sA, sB, sC]
            refine tkH 4 ⟨some 74, _, _, _, _, _⟩ ?_ rfl ?_ (by assumption) ?_
            rotate_left
            · (intro w hSw; (try dsimp only at hSw); go_simp; all_goals with_reducible rfl)
            try simp only [Act.put, sA, sB, sC]
            refine tkH 5 ⟨some 75, _, _, _, _, _⟩ ?_ rfl ?_ (by assumption) ?_
            rotate_left
            · (intro w hSw; (try dsimp only at hSw); go_simp; all_goals with_reducible rfl)
            try simp only [Act.put, sA, sB, sC]
            refine tkH 6 ⟨some 76, _, _, _, _, _⟩ ?_ rfl ?_ (by assumption) ?_
            rotate_left
            · (intro w hSw; (try dsimp only at hSw); go_simp; all_goals with_reducible rfl)
            try simp only [Act.put, sA, sB, sC]
            refine tkH 7 ⟨some 77, _, _, _, _, _⟩ ?_ rfl ?_ (by assumption) ?_
            rotate_left
            · (intro w hSw; (try dsimp only at hSw); go_simp; all_goals with_reducible rfl)
            try simp only [Act.put, sA, sB, sC]
            refine tkH 8 ⟨some 78, _, _, _, _, _⟩ ?_ rfl ?_ (by assumption) ?_
            rotate_left
            · (intro w hSw; (try dsimp only at hSw); go_simp; all_goals with_reducible rfl)
            try simp only [Act.put, sA, sB, sC]
            refine tkH 9 ⟨some 79, _, _, _, _, _⟩ ?_ rfl ?_ (by assumption) ?_
            rotate_left
            · (intro w hSw; (try dsimp only at hSw); go_simp; all_goals with_reducible rfl)
            try simp only [Act.put, sA, sB, sC]
            refine tkH 10 ⟨some 80, _, _, _, _, _⟩ ?_ rfl ?_ (by assumption) ?_
            rotate_left
            · (intro w hSw; (try dsimp only at hSw); go_simp; all_goals with_reducible rfl)
            try simp only [Act.put, sA, sB, sC]
            refine tkH 11 ⟨some 81, _, _, _, _, _⟩ ?_ rfl ?_ (by assumption) ?_
            rotate_left
            · (intro w hSw; (try dsimp only at hSw); go_simp; all_goals with_reducible rfl)
            try simp only [Act.put, sA, sB, sC]
            refine wpAnyH_ready (rs := [12]) (by kernel_rfl) (by simp) ?_
            refine AllReadyH.cons rfl (fun K hK => ?_) (AllReadyH.nil)
            go_simp
            go_wp2_with fail
            refine hK.out _ _ (HQ.out _ (hT0.alloc hT0.size _)) (fun hHeld => ?_)
            clear hK K
            try simp only [Act.put, sA, sB, sC]
            obtain ⟨bm, ebm⟩ : ∃ x, v0.heap.size = x := ⟨_, rfl⟩
            generalize hq1 : v0.alloc (.cells #[.int .i64 x, .int .i64 (y - 1)] 26) = v1
            have hb1 : Below v0.heap.size v0 v1 := by rw [← hq1]; exact (Below.refl _ _).alloc (Nat.le_refl _) _
            have HM : Hid (v1.cell? ⟨bm, 0, none⟩ = some (.int .i64 x) ∧ v1.cell? ⟨bm, 1, none⟩ = some (.int .i64 (y - 1))) := Lib.hid (by rw [← hq1, ← ebm]; exact ⟨by simp [go_sem], by simp [go_sem]⟩)
            have hT1 : Below x2.heap.size x2 v1 := hT0.trans (hb1.mono hT0.size)
            have HE1 := Lib.hid (own_below HO2.out hT1 (Nat.le_refl _))
            have hW1 : Below wa.heap.size wa v1 := HB2.out.trans (hT1.mono HB2.out.size)
            rw [ebm]
            clear hq1 hb1 hT0
            refine wpAnyH_ready (rs := [13]) (by kernel_rfl) (by simp) ?_
            refine AllReadyH.cons rfl (fun K hK => ?_) (AllReadyH.nil)
            rw [if_pos (by kernel_rfl)]
            refine oper_app_any _ _ 32 rfl wa.heap.size 26 j0 (.agg #[.int .i64 0, .int .i64 0]) 2 16 Tryz.underlying32 JI.out JZ0.out JZ1.out JZ2.out rfl (by decide) _ r (rowsV rgV V) rfl HE1.out ⟨bm, 0, none⟩ 1 1 [.int .i64 x, .int .i64 (y - 1)] rfl rfl ?a0 ?a1 ?a2 ?a3 hW1.size ?_
            case a0 =>
              intro j v hj
              match j, hj with
              | 0, hj => simp at hj; subst hj; exact HM.out.1
              | 1, hj => simp at hj; subst hj; exact HM.out.2
            case a1 => intro v hv; simp at hv; rcases hv with rfl | rfl <;> rfl
            case a2 => unfold maxLen; omega
            case a3 => omega
            intro v' x5 hown hgrow hblk
            have hB5 : Below wa.heap.size wa x5 := hW1.grown hgrow hW1.size (fun r hr => (own_block HE1.out r hr).1)
            have hown2 : x5.ownsRow wa.heap.size 26 2 v' (V ++ [(⟨x, y - 1⟩ : Rg)]).length (rowsV rgV (V ++ [(⟨x, y - 1⟩ : Rg)])) := by rw [HRW.out, List.length_append, hst.out]; exact hown
            obtain ⟨G5, cg5, hv5, _, _, _, _, _⟩ := SlRows_own (f := rgV) (n := 2) (fun _ => rfl) hown2
            rw [List.length_append, hst.out] at hv5
            simp only [List.length_cons, List.length_nil, Nat.zero_add] at hv5
            subst hv5
            have HO5 : Hid (x5.ownsRow wa.heap.size 26 2 (.slice G5 (r + 1) cg5) (r + 1) (rowsV rgV (V ++ [(⟨x, y - 1⟩ : Rg)]))) := Lib.hid (by rw [List.length_append, hst.out] at hown2; exact hown2)
            have HB5 := Lib.hid hB5
            have hsx : x5.cell? ⟨b, off + k, none⟩ = some (.int .i64 x) ∧ x5.cell? ⟨b, off + (k + 1), none⟩ = some (.int .i64 y) := HWA.out _ hB5
            clear hown hown2 hblk hgrow hB5
            refine hK.out _ _ hsx (fun hHeld => ?_)
            clear hK K
            try simp only [Act.put, sA, sB, sC]
            refine tkH 14 ⟨some 8, _, _, _, _, _⟩ ?_ rfl ?_ (by assumption) ?_
            rotate_left
            · (intro w hSw; (try dsimp only at hSw); go_simp; all_goals with_reducible rfl)
            try simp only [Act.put, sA, sB, sC]
            refine wpAnyH_done (by kernel_rfl) ?_ _
            go_wp2
            go_roundw
            case rel => exact ⟨k + 1, r + 1, G5, cg5, rfl, by go_num, by omega, by omega, Or.inr (by omega), Lib.hid (by rw [HS.out]; simp [hst.out]), Lib.hid (by rw [HS.out]; exact HO5.out), HB5.out⟩
            case measure => (simp [intOf]) <;> omega
    · have HK : Hid (cmL c l k = cmL c l (q - 1)) := Lib.hid (by
        rcases hkq with h | h
        · have : q - 1 = 0 := by omega
          rw [h, this]
        · rw [show q - 1 = k by omega])
      have kn : ¬ (k : Int) + 1 < (q : Int) := by omega
      have hown2 : wr.ownsRow wa.heap.size 26 2 (.slice G r cg) (cmL c l k).length (rowsV rgV (cmL c l k)) := by rw [hst.out]; exact HO.out
      obtain ⟨G5, cg5, hv5, hS5, _, hn5, _, _⟩ := SlRows_own (f := rgV) (n := 2) (fun _ => rfl) hown2
      rw [hst.out] at hv5
      have e1 : G = G5 := by injection hv5
      have e3 : cg = cg5 := by injection hv5
      subst e1 e3
      have HS5 := Lib.hid hS5
      have HN5 := Lib.hid hn5
      have hBz : Below w.heap.size w wr := HBW.out.trans (hB.mono HBW.out.size)
      clear hown2 hS5 hn5 hv5 hkq
      go_wp2
      go_ret
      exact ⟨G, cg, by rw [← HK.out, hst.out]; rfl, by rw [← HK.out]; exact HS5.out, HN5.out, hBz⟩
set_option maxRecDepth 100000 in
set_option maxHeartbeats 4000000 in
theorem refCombJ_is (LA LB : List Rg) (A B : Option Addr) (na nb ca cb : Nat) (w : World) (hna : Hid (na = LA.length)) (hnb : Hid (nb = LB.length)) (hN0 : na + nb ≤ 30) (HA : Hid (∀ w' : World, Below w.heap.size w w' → SlRows rgV 2 w' A LA)) (HB : Hid (∀ w' : World, Below w.heap.size w w' → SlRows rgV 2 w' B LB)) (CA : Hid (A = none → na = 0 ∧ ca = 0)) (CB : Hid (B = none → nb = 0 ∧ cb = 0)) (hbd : Hid (∀ x ∈ LA ++ LB, 0 ≤ x.lo ∧ x.lo ≤ x.hi ∧ x.hi ≤ 1000000)) :
    Calls Tryz.prog 82 #[.slice A na ca, .slice B nb cb, .int .i64 1] w (RwP (cmL (fun m => inW LA m || inW LB m) (stpL (mks (LA ++ LB))) ((stpL (mks (LA ++ LB))).length - 1)) w) := by
  obtain ⟨j0, ji, jz0, jz1, jz2⟩ := info_partsS infoRg
  have JI := Lib.hid ji
  have JZ0 := Lib.hid jz0
  have JZ1 := Lib.hid jz1
  have JZ2 := Lib.hid jz2
  clear ji jz0 jz1 jz2
  obtain ⟨c, hc⟩ : ∃ c : Int → Bool, c = fun m => inW LA m || inW LB m := ⟨_, rfl⟩
  rw [← hc]
  have HC : Hid (∀ m, c m = (inW LA m || inW LB m)) := Lib.hid fun m => by rw [hc]
  clear hc
  obtain ⟨l, hl⟩ : ∃ l, Hid (stpL (mks (LA ++ LB)) = l) := ⟨_, Lib.hid rfl⟩
  obtain ⟨q, hq⟩ : ∃ q, Hid (l.length = q) := ⟨_, Lib.hid rfl⟩
  rw [hl.out, hq.out]
  go_enter Tryz.func82, Tryz.ntmps82
  go_wp2_with fail
  refine (refSteps_is LA LB A B na nb ca cb _ hna hnb hN0 HA HB CA CB hbd).mono ?_
  rintro e wa ⟨G0, c0, rfl, hS0, hb0⟩
  have hAsc : Asc l := by rw [← hl.out]; exact (stpL_is _).1
  have hlen : l.length ≤ 60 := by rw [← hl.out]; have := stpL_len (mks (LA ++ LB)); rw [mks_len, List.length_append, ← hna.out, ← hnb.out] at this; omega
  have hbnd : ∀ k, k < l.length → 0 ≤ l.getD k 0 ∧ l.getD k 0 ≤ 1000001 := by
    intro k hk
    have hm : l.getD k 0 ∈ stpL (mks (LA ++ LB)) := by
      rw [hl.out, List.getD_eq_getElem?_getD, List.getElem?_eq_getElem hk]; exact List.getElem_mem _
    rw [(stpL_is _).2] at hm
    obtain ⟨r, hr, hx⟩ := List.mem_flatMap.1 hm
    have := hbd.out r hr
    rw [List.mem_cons, List.mem_singleton] at hx
    rcases hx with h | h <;> omega
  have HASC := Lib.hid hAsc
  have HBND := Lib.hid hbnd
  rw [hl.out] at hS0 ⊢
  rw [hq.out] at hlen ⊢
  have HROW : Hid (∀ x, Below wa.heap.size wa x → SlRows intV 1 x G0 l) := Lib.hid fun x hx => hS0.below hx
  have hBw : Below w.heap.size w wa := (by (repeat (first | (with_reducible refine Below.drew ?_) | (with_reducible refine below_drewN ?_ _) | (with_reducible refine Below.alloc ?_ (by first | omega | (simp; done) | (simp; omega) | (simp at *; omega)) _) | (with_reducible refine Below.setCell ?_ (by first | omega | (simp; done) | (simp; omega) | (simp at *; omega)) _) | (with_reducible exact Below.refl _ _) | (with_reducible assumption) | (with_reducible refine Below.trans ?_ (Below.mono (by assumption) (by first | omega | (simp; done) | (simp; omega) | (simp at *; omega)))))))
  have HBW := Lib.hid hBw
  have HXA : Hid (∀ x, Below wa.heap.size wa x → SlRows rgV 2 x A LA) := Lib.hid fun x hx => HA.out _ (hBw.trans (hx.mono hBw.size))
  have HXB : Hid (∀ x, Below wa.heap.size wa x → SlRows rgV 2 x B LB) := Lib.hid fun x hx => HB.out _ (hBw.trans (hx.mono hBw.size))
  clear hS0 hb0 hBw hAsc hbnd
  go_wp2
  go_loopw [8, 9] (fun st i wr => ∃ (k r : Nat) (G : Option Addr) (cg : Nat), st = .slice G r cg ∧ i = .int .i64 k ∧ k ≤ q ∧ r ≤ k ∧ (k = 0 ∨ k + 1 ≤ q) ∧ Hid ((cmL c l k).length = r) ∧ Hid (wr.ownsRow wa.heap.size 26 2 (.slice G r cg) r (rowsV rgV (cmL c l k))) ∧ Below wa.heap.size wa wr) (fun _ i _ => q - (intOf i).toNat)
  case atStart => exact ⟨0, 0, none, 0, rfl, rfl, by omega, by omega, Or.inl rfl, Lib.hid rfl, Lib.hid ⟨rfl, .inl ⟨rfl, rfl⟩⟩, (by (repeat (first | (with_reducible refine Below.drew ?_) | (with_reducible refine below_drewN ?_ _) | (with_reducible refine Below.alloc ?_ (by first | omega | (simp; done) | (simp; omega) | (simp at *; omega)) _) | (with_reducible refine Below.setCell ?_ (by first | omega | (simp; done) | (simp; omega) | (simp at *; omega)) _) | (with_reducible exact Below.refl _ _) | (with_reducible assumption) | (with_reducible refine Below.trans ?_ (Below.mono (by assumption) (by first | omega | (simp; done) | (simp; omega) | (simp at *; omega)))))))⟩
  case round =>
    obtain ⟨k, r, G, cg, rfl, rfl, hk, hrk, hkq, hst, HO, hB⟩ := hrel
    have hsz := hB.size
    have ek : IntKind.i64.wrap ((k : Int) + 1) = (k : Int) + 1 := IntWalk.i64_in _ (by omega)
    by_cases hkn : k + 1 < q
    · have kn : (k : Int) + 1 < (q : Int) := by omega
      have kn0 : (k : Int) < (q : Int) := by omega
      have e1 : ((k : Int) + 1).toNat = k + 1 := by omega
      have e2 : (0 : Int) ≤ (k : Int) + 1 := by omega
      have hx0 : k < l.length := by rw [hq.out]; omega
      have hx1 : k + 1 < l.length := by rw [hq.out]; omega
      obtain ⟨b, off, rfl, hlt, f0⟩ := int_at (HROW.out _ hB) hx0
      obtain ⟨b', off', eb, _, f1⟩ := int_at (HROW.out _ hB) hx1
      injection eb with eb
      injection eb with eb1 eb2
      subst eb1 eb2
      obtain ⟨b0, b1⟩ := HBND.out k hx0
      obtain ⟨b2, b3⟩ := HBND.out (k + 1) hx1
      have hasc := asc_at HASC.out (show k < k + 1 by omega) hx1
      obtain ⟨x, hx⟩ : ∃ x, Hid (l.getD k 0 = x) := ⟨_, Lib.hid rfl⟩
      obtain ⟨y, hy⟩ : ∃ y, Hid (l.getD (k + 1) 0 = y) := ⟨_, Lib.hid rfl⟩
      rw [hx.out] at f0 b0 b1 hasc
      rw [hy.out] at f1 b2 b3 hasc
      have HCELL : Hid (∀ z, Below wr.heap.size wr z → z.cell? ⟨b, off + k, none⟩ = some (.int .i64 x) ∧ z.cell? ⟨b, off + (k + 1), none⟩ = some (.int .i64 y)) := Lib.hid fun z hz => ⟨(hz.cell (p := ⟨b, off + k, none⟩) hlt).trans f0, (hz.cell (p := ⟨b, off + (k + 1), none⟩) hlt).trans f1⟩
      have HWA : Hid (∀ z, Below wa.heap.size wa z → z.cell? ⟨b, off + k, none⟩ = some (.int .i64 x) ∧ z.cell? ⟨b, off + (k + 1), none⟩ = some (.int .i64 y)) := Lib.hid fun z hz => by
        obtain ⟨p0, p1, ep, _, h0⟩ := int_at (HROW.out _ hz) hx0
        obtain ⟨q0, q1, eq, _, h1⟩ := int_at (HROW.out _ hz) hx1
        injection ep with ep
        injection ep with e1 e2
        injection eq with eq
        injection eq with e3 e4
        subst e1 e2 e3 e4
        rw [hx.out] at h0
        rw [hy.out] at h1
        exact ⟨h0, h1⟩
      have ey : IntKind.i64.wrap (y - 1) = y - 1 := IntWalk.i64_in _ (by omega)
      obtain ⟨pA, hpA⟩ : ∃ p, Hid (inW LA x = p) := ⟨_, Lib.hid rfl⟩
      obtain ⟨pB, hpB⟩ : ∃ p, Hid (inW LB x = p) := ⟨_, Lib.hid rfl⟩
      have hcx : c x = (pA || pB) := by rw [HC.out, hpA.out, hpB.out]
      have HCX := Lib.hid hcx
      clear hcx
      go_wp2_with fail
      refine (refIn_is LA A na ca x pA _ hna (by omega) (Lib.hid (HXA.out _ (by exact (by (repeat (first | (with_reducible refine Below.drew ?_) | (with_reducible refine below_drewN ?_ _) | (with_reducible refine Below.alloc ?_ (by first | omega | (simp; done) | (simp; omega) | (simp at *; omega)) _) | (with_reducible refine Below.setCell ?_ (by first | omega | (simp; done) | (simp; omega) | (simp at *; omega)) _) | (with_reducible exact Below.refl _ _) | (with_reducible assumption) | (with_reducible refine Below.trans ?_ (Below.mono (by assumption) (by first | omega | (simp; done) | (simp; omega) | (simp at *; omega)))))))))) hpA).mono ?_
      rintro e x1 ⟨rfl, hb1⟩
      have hc1 : Below wr.heap.size wr x1 := (by (repeat (first | (with_reducible refine Below.drew ?_) | (with_reducible refine below_drewN ?_ _) | (with_reducible refine Below.alloc ?_ (by first | omega | (simp; done) | (simp; omega) | (simp at *; omega)) _) | (with_reducible refine Below.setCell ?_ (by first | omega | (simp; done) | (simp; omega) | (simp at *; omega)) _) | (with_reducible exact Below.refl _ _) | (with_reducible assumption) | (with_reducible refine Below.trans ?_ (Below.mono (by assumption) (by first | omega | (simp; done) | (simp; omega) | (simp at *; omega)))))))
      obtain ⟨g0, g1⟩ := HCELL.out _ hc1
      clear hb1
      have z1 := hc1.size
      have hB1 : Below wa.heap.size wa x1 := hB.trans (hc1.mono hsz)
      have HIA := hpA
      cases pA with
      | false =>
        cases pB with
        | false =>
          go_wp2_with fail
          refine (refIn_is LB B nb cb x false _ hnb (by omega) (Lib.hid (HXB.out _ (by exact (by (repeat (first | (with_reducible refine Below.drew ?_) | (with_reducible refine below_drewN ?_ _) | (with_reducible refine Below.alloc ?_ (by first | omega | (simp; done) | (simp; omega) | (simp at *; omega)) _) | (with_reducible refine Below.setCell ?_ (by first | omega | (simp; done) | (simp; omega) | (simp at *; omega)) _) | (with_reducible exact Below.refl _ _) | (with_reducible assumption) | (with_reducible refine Below.trans ?_ (Below.mono (by assumption) (by first | omega | (simp; done) | (simp; omega) | (simp at *; omega)))))))))) hpB).mono ?_
          rintro e x2 ⟨rfl, hb2⟩
          have hc2 : Below wr.heap.size wr x2 := hc1.trans (hb2.mono z1)
          obtain ⟨u0, u1⟩ := HCELL.out _ hc2
          have z2 := hc2.size
          have hB2 : Below wa.heap.size wa x2 := hB.trans (hc2.mono hsz)
          have HO2 := Lib.hid (own_below HO.out hc2 (Nat.le_refl _))
          have s2 := hB2.size
          clear hb2 g0 g1 hc1 hB1 z1
          have HS : Hid (cmL c l (k + 1) = cmL c l k) := Lib.hid (by rw [cmL, hx.out, if_neg (by rw [HCX.out]; decide)])
          go_wp2
          go_roundw
          case rel => exact ⟨k + 1, r, G, cg, rfl, by go_num, by omega, by omega, Or.inr (by omega), Lib.hid (by rw [HS.out]; exact hst.out), Lib.hid (by rw [HS.out]; exact HO2.out), hB2⟩
          case measure => (simp [intOf]) <;> omega
        | true =>
          go_wp2_with fail
          refine (refIn_is LB B nb cb x true _ hnb (by omega) (Lib.hid (HXB.out _ (by exact (by (repeat (first | (with_reducible refine Below.drew ?_) | (with_reducible refine below_drewN ?_ _) | (with_reducible refine Below.alloc ?_ (by first | omega | (simp; done) | (simp; omega) | (simp at *; omega)) _) | (with_reducible refine Below.setCell ?_ (by first | omega | (simp; done) | (simp; omega) | (simp at *; omega)) _) | (with_reducible exact Below.refl _ _) | (with_reducible assumption) | (with_reducible refine Below.trans ?_ (Below.mono (by assumption) (by first | omega | (simp; done) | (simp; omega) | (simp at *; omega)))))))))) hpB).mono ?_
          rintro e x2 ⟨rfl, hb2⟩
          have hc2 : Below wr.heap.size wr x2 := hc1.trans (hb2.mono z1)
          obtain ⟨u0, u1⟩ := HCELL.out _ hc2
          have z2 := hc2.size
          have hB2 : Below wa.heap.size wa x2 := hB.trans (hc2.mono hsz)
          have HO2 := Lib.hid (own_below HO.out hc2 (Nat.le_refl _))
          have s2 := hB2.size
          clear hb2 g0 g1 hc1 hB1 z1
          obtain ⟨V, hV⟩ : ∃ V, Hid (cmL c l k = V) := ⟨_, Lib.hid rfl⟩
          rw [hV.out] at hst HO2
          have hvI := cmL_is c HASC.out k (by omega)
          rw [hV.out] at hvI
          have HCT : c (l.getD k 0) = true := by rw [hx.out, HCX.out]; rfl
          by_cases hr0 : 0 < r
          · have ri : (0 : Int) < (r : Int) := by omega
            have rd : decide ((0 : Int) < (r : Int)) = true := by simpa using ri
            have er : IntKind.i64.wrap ((r : Int) - 1) = (r : Int) - 1 := IntWalk.i64_in _ (by omega)
            have l2 : (0 : Int) ≤ (r : Int) - 1 := by omega
            have l3 : ((r : Int) - 1).toNat = r - 1 := by omega
            have l4 : (r : Int) - 1 < (r : Int) := by omega
            have hne : V ≠ [] := by intro h; rw [h] at hst; have := hst.out; simp at this; omega
            obtain ⟨pv, ⟨va, vh⟩, ev⟩ : ∃ p r, V = p ++ [r] := ⟨_, _, (List.dropLast_concat_getLast hne).symm⟩
            have hvl : V.getD (V.length - 1) default = ⟨va, vh⟩ := by rw [ev]; simp
            have hvh := hvI.hi ⟨va, vh⟩ (by rw [ev]; simp)
            have hvg := hvI.gap.1 ⟨va, vh⟩ (by rw [ev]; simp)
            rw [hx.out] at hvh
            dsimp only at hvh hvg
            have hvlo : -1 ≤ vh := by
              have hmem := (hvI.mem va).1 (inW_iff.2 ⟨⟨va, vh⟩, by rw [ev]; simp, Int.le_refl _, hvg⟩)
              obtain ⟨i, hi, h1, _⟩ := hmem
              have := (HBND.out i (by rw [hq.out]; omega)).1
              omega
            have ew : IntKind.i64.wrap (vh + 1) = vh + 1 := IntWalk.i64_in _ (by omega)
            have hO2 := HO2.out
            obtain ⟨g, rfl, hgb, y0, yf⟩ : ∃ g, G = some ⟨g, 0, none⟩ ∧ wa.heap.size ≤ g ∧ x2.cell? ⟨g, (r - 1) * 2 + 1, none⟩ = some (.int .i64 vh) ∧ x2.frozen? ⟨g, (r - 1) * 2 + 1, none⟩ = false := by
              rcases hO2.2 with ⟨hv, h0⟩ | ⟨g, cap', cur, hv, hg, hh, hle, hcap, hs, ht⟩
              · omega
              · injection hv with e1 e2 e3
                refine ⟨g, e1, hg, ?_, by simp [World.frozen?, hh]⟩
                have hlr : (r - 1) * 2 + 1 < r * 2 := by omega
                have h1 : (cur.toList.take (r * 2))[(r - 1) * 2 + 1]? = (rowsV rgV V)[(r - 1) * 2 + 1]? := by rw [ht]
                rw [List.getElem?_take_of_lt hlr, rowsV_at (f := rgV) (n := 2) (fun _ => rfl) (k := r - 1) (by rw [hst.out]; omega) (i := 1) (by omega)] at h1
                have h2 : V[r - 1]'(by rw [hst.out]; omega) = ⟨va, vh⟩ := by
                  have := hvl
                  rw [hst.out, List.getD_eq_getElem?_getD, List.getElem?_eq_getElem (by rw [hst.out]; omega)] at this
                  exact this
                rw [h2] at h1
                simp only [World.cell?, hh]
                simpa [rgV] using h1
            have HO3 := Lib.hid hO2
            clear hO2
            by_cases hjn : vh + 1 = x
            · have hjb : (vh + 1 == x) = true := by simp [hjn]
              have HS : Hid (cmL c l (k + 1) = setHi V (y - 1)) := Lib.hid (by rw [cmL, hV.out, if_pos HCT, hx.out, hy.out, if_pos (by unfold joinB; rw [hvl, hst.out]; simp [hjn]; omega)])
              have HRW := Lib.hid (rowsV_setHi V (y - 1) hne)
              rw [hst.out] at HRW
              have HO4 := Lib.hid (own_set HO3.out (j := (r - 1) * 2 + 1) (by omega) (.int .i64 (y - 1)))
              clear hvI hvh hvg hvl ev hne HCT hjn
              go_upto_region 12 with (fail)
              go_big_quiet (fail)
              go_wp2
              go_roundw
              case rel => exact ⟨k + 1, r, some ⟨g, 0, none⟩, cg, rfl, by go_num, by omega, by omega, Or.inr (by omega), Lib.hid (by rw [HS.out]; simp [setHi, hst.out]), Lib.hid (by rw [HS.out, HRW.out]; exact own_drewN HO4.out), (by (repeat (first | (with_reducible refine Below.drew ?_) | (with_reducible refine below_drewN ?_ _) | (with_reducible refine Below.alloc ?_ (by first | omega | (simp; done) | (simp; omega) | (simp at *; omega)) _) | (with_reducible refine Below.setCell ?_ (by first | omega | (simp; done) | (simp; omega) | (simp at *; omega)) _) | (with_reducible exact Below.refl _ _) | (with_reducible assumption) | (with_reducible refine Below.trans ?_ (Below.mono (by assumption) (by first | omega | (simp; done) | (simp; omega) | (simp at *; omega)))))))⟩
              case measure => (simp [intOf]) <;> omega
            · have hjb : (vh + 1 == x) = false := by simpa using hjn
              have HS : Hid (cmL c l (k + 1) = V ++ [(⟨x, y - 1⟩ : Rg)]) := Lib.hid (by rw [cmL, hV.out, if_pos HCT, hx.out, hy.out, if_neg (by unfold joinB; rw [hvl]; simp [hjn])])
              clear hvI hvh hvg hvl ev hne HCT hjn
              go_upto_region 12 with (fail)
              go_big_quiet (fail)
              have HQ : Hid (∀ z, Below x2.heap.size x2 z → z.cell? ⟨b, off + k, none⟩ = some (.int .i64 x) ∧ z.cell? ⟨b, off + (k + 1), none⟩ = some (.int .i64 y)) := Lib.hid fun z hz => HCELL.out _ (hc2.trans (hz.mono z2))
              have HRW : Hid (rowsV rgV (V ++ [(⟨x, y - 1⟩ : Rg)]) = rowsV rgV V ++ [.int .i64 x, .int .i64 (y - 1)]) := Lib.hid (by rw [rowsV_app]; rfl)
              have HB2 := Lib.hid hB2
              go_upto_region 14 with (fail)
              refine wp_world (fun X => Below x2.heap.size x2 X) (by (repeat (first | (with_reducible refine Below.drew ?_) | (with_reducible refine below_drewN ?_ _) | (with_reducible refine Below.alloc ?_ (by first | omega | (simp; done) | (simp; omega) | (simp at *; omega)) _) | (with_reducible refine Below.setCell ?_ (by first | omega | (simp; done) | (simp; omega) | (simp at *; omega)) _) | (with_reducible exact Below.refl _ _) | (with_reducible assumption) | (with_reducible refine Below.trans ?_ (Below.mono (by assumption) (by first | omega | (simp; done) | (simp; omega) | (simp at *; omega))))))) (fun x3 hx3 => ?_)
              refine wp_region_held_drew (S := (fun w' => w'.cell? ⟨b, off + k, none⟩ = some (.int .i64 x) ∧ w'.cell? ⟨b, off + (k + 1), none⟩ = some (.int .i64 y))) (by kernel_rfl) (by exact HQ.out _ hx3.drew) (fun hHeld => ?_)
              have hT0 : Below x2.heap.size x2 x3.drew := hx3.drew
              generalize hdr : x3.drew = v0 at *
              clear hdr
              refine tkH 0 ⟨some 70, _, _, _, _, _⟩ ?_ rfl ?_ (by assumption) ?_
              rotate_left
              · (intro w hSw; (try dsimp only at hSw); go_simp; all_goals with_reducible rfl)
              try simp only [Act.put, sA, sB, sC]
              refine tkH 1 ⟨some 71, _, _, _, _, _⟩ ?_ rfl ?_ (by assumption) ?_
              rotate_left
              · (intro w hSw; (try dsimp only at hSw); go_simp; all_goals with_reducible rfl)
              try simp only [Act.put, sA, sB, sC]
              refine tkH 2 ⟨some 72, _, _, _, _, _⟩ ?_ rfl ?_ (by assumption) ?_
              rotate_left
              · (intro w hSw; (try dsimp only at hSw); go_simp; all_goals with_reducible rfl)
              try simp only [Act.put, sA, sB, sC]
              refine tkH 3 ⟨some 73, _, _, _, _, _⟩ ?_ rfl ?_ (by assumption) ?_
              rotate_left
              · (intro w hSw; (try dsimp only at hSw); go_simp; all_goals with_reducible rfl)
              try simp only [Act.put, sA, sB, sC]
              refine tkH 4 ⟨some 74, _, _, _, _, _⟩ ?_ rfl ?_ (by assumption) ?_
              rotate_left
              · (intro w hSw; (try dsimp only at hSw); go_simp; all_goals with_reducible rfl)
              try simp only [Act.put, sA, sB, sC]
              refine tkH 5 ⟨some 75, _, _, _, _, _⟩ ?_ rfl ?_ (by assumption) ?_
              rotate_left
              · (intro w hSw; (try dsimp only at hSw); go_simp; all_goals with_reducible rfl)
              try simp only [Act.put, sA, sB, sC]
              refine tkH 6 ⟨some 76, _, _, _, _, _⟩ ?_ rfl ?_ (by assumption) ?_
              rotate_left
              · (intro w hSw; (try dsimp only at hSw); go_simp; all_goals with_reducible rfl)
              try simp only [Act.put, sA, sB, sC]
              refine tkH 7 ⟨some 77, _, _, _, _, _⟩ ?_ rfl ?_ (by assumption) ?_
              rotate_left
              · (intro w hSw; (try dsimp only at hSw); go_simp; all_goals with_reducible rfl)
              try simp only [Act.put, sA, sB, sC]
              refine tkH 8 ⟨some 78, _, _, _, _, _⟩ ?_ rfl ?_ (by assumption) ?_
              rotate_left
              · (intro w hSw; (try dsimp only at hSw); go_simp; all_goals with_reducible rfl)
              try simp only [Act.put, sA, sB, sC]
              refine tkH 9 ⟨some 79, _, _, _, _, _⟩ ?_ rfl ?_ (by assumption) ?_
              rotate_left
              · (intro w hSw; (try dsimp only at hSw); go_simp; all_goals with_reducible rfl)
              try simp only [Act.put, sA, sB, sC]
              refine tkH 10 ⟨some 80, _, _, _, _, _⟩ ?_ rfl ?_ (by assumption) ?_
              rotate_left
              · (intro w hSw; (try dsimp only at hSw); go_simp; all_goals with_reducible rfl)
              try simp only [Act.put, sA, sB, sC]
              refine tkH 11 ⟨some 81, _, _, _, _, _⟩ ?_ rfl ?_ (by assumption) ?_
              rotate_left
              · (intro w hSw; (try dsimp only at hSw); go_simp; all_goals with_reducible rfl)
              try simp only [Act.put, sA, sB, sC]
              refine wpAnyH_ready (rs := [12]) (by kernel_rfl) (by simp) ?_
              refine AllReadyH.cons rfl (fun K hK => ?_) (AllReadyH.nil)
              go_simp
              go_wp2_with fail
              refine hK.out _ _ (HQ.out _ (hT0.alloc hT0.size _)) (fun hHeld => ?_)
              clear hK K
              try simp only [Act.put, sA, sB, sC]
              obtain ⟨bm, ebm⟩ : ∃ x, v0.heap.size = x := ⟨_, rfl⟩
              generalize hq1 : v0.alloc (.cells #[.int .i64 x, .int .i64 (y - 1)] 26) = v1
              have hb1 : Below v0.heap.size v0 v1 := by rw [← hq1]; exact (Below.refl _ _).alloc (Nat.le_refl _) _
              have HM : Hid (v1.cell? ⟨bm, 0, none⟩ = some (.int .i64 x) ∧ v1.cell? ⟨bm, 1, none⟩ = some (.int .i64 (y - 1))) := Lib.hid (by rw [← hq1, ← ebm]; exact ⟨by simp [go_sem], by simp [go_sem]⟩)
              have hT1 : Below x2.heap.size x2 v1 := hT0.trans (hb1.mono hT0.size)
              have HE1 := Lib.hid (own_below HO3.out hT1 (Nat.le_refl _))
              have hW1 : Below wa.heap.size wa v1 := HB2.out.trans (hT1.mono HB2.out.size)
              rw [ebm]
              clear hq1 hb1 hT0
              refine wpAnyH_ready (rs := [13]) (by kernel_rfl) (by simp) ?_
              refine AllReadyH.cons rfl (fun K hK => ?_) (AllReadyH.nil)
              rw [if_pos (by kernel_rfl)]
              refine oper_app_any _ _ 32 rfl wa.heap.size 26 j0 (.agg #[.int .i64 0, .int .i64 0]) 2 16 Tryz.underlying32 JI.out JZ0.out JZ1.out JZ2.out rfl (by decide) _ r (rowsV rgV V) rfl HE1.out ⟨bm, 0, none⟩ 1 1 [.int .i64 x, .int .i64 (y - 1)] rfl rfl ?a0 ?a1 ?a2 ?a3 hW1.size ?_
              case a0 =>
                intro j v hj
                match j, hj with
                | 0, hj => simp at hj; subst hj; exact HM.out.1
                | 1, hj => simp at hj; subst hj; exact HM.out.2
              case a1 => intro v hv; simp at hv; rcases hv with rfl | rfl <;> rfl
              case a2 => unfold maxLen; omega
              case a3 => omega
              intro v' x5 hown hgrow hblk
              have hB5 : Below wa.heap.size wa x5 := hW1.grown hgrow hW1.size (fun r hr => (own_block HE1.out r hr).1)
              have hown2 : x5.ownsRow wa.heap.size 26 2 v' (V ++ [(⟨x, y - 1⟩ : Rg)]).length (rowsV rgV (V ++ [(⟨x, y - 1⟩ : Rg)])) := by rw [HRW.out, List.length_append, hst.out]; exact hown
              obtain ⟨G5, cg5, hv5, _, _, _, _, _⟩ := SlRows_own (f := rgV) (n := 2) (fun _ => rfl) hown2
              rw [List.length_append, hst.out] at hv5
              simp only [List.length_cons, List.length_nil, Nat.zero_add] at hv5
              subst hv5
              have HO5 : Hid (x5.ownsRow wa.heap.size 26 2 (.slice G5 (r + 1) cg5) (r + 1) (rowsV rgV (V ++ [(⟨x, y - 1⟩ : Rg)]))) := Lib.hid (by rw [List.length_append, hst.out] at hown2; exact hown2)
              have HB5 := Lib.hid hB5
              have hsx : x5.cell? ⟨b, off + k, none⟩ = some (.int .i64 x) ∧ x5.cell? ⟨b, off + (k + 1), none⟩ = some (.int .i64 y) := HWA.out _ hB5
              clear hown hown2 hblk hgrow hB5
              refine hK.out _ _ hsx (fun hHeld => ?_)
              clear hK K
              try simp only [Act.put, sA, sB, sC]
              refine tkH 14 ⟨some 8, _, _, _, _, _⟩ ?_ rfl ?_ (by assumption) ?_
              rotate_left
              · (intro w hSw; (try dsimp only at hSw); go_simp; all_goals with_reducible rfl)
              try simp only [Act.put, sA, sB, sC]
              refine wpAnyH_done (by kernel_rfl) ?_ _
              go_wp2
              go_roundw
              case rel => exact ⟨k + 1, r + 1, G5, cg5, rfl, by go_num, by omega, by omega, Or.inr (by omega), Lib.hid (by rw [HS.out]; simp [hst.out]), Lib.hid (by rw [HS.out]; exact HO5.out), HB5.out⟩
              case measure => (simp [intOf]) <;> omega
          · have rr : Hid (r = 0) := Lib.hid (by omega)
            have rd : decide ((0 : Int) < (r : Int)) = false := by rw [rr.out]; rfl
            have rd2 : ¬ (0 : Int) < (r : Int) := by omega
            have HS : Hid (cmL c l (k + 1) = V ++ [(⟨x, y - 1⟩ : Rg)]) := Lib.hid (by rw [cmL, hV.out, if_pos HCT, hx.out, hy.out, if_neg (by unfold joinB; rw [hst.out, rr.out]; simp)])
            have rdn : decide (0 < r) = false := by simpa using hr0
            clear hvI HCT
            go_upto_region 12 with (fail)
            go_big_quiet (fail)
            have HQ : Hid (∀ z, Below x2.heap.size x2 z → z.cell? ⟨b, off + k, none⟩ = some (.int .i64 x) ∧ z.cell? ⟨b, off + (k + 1), none⟩ = some (.int .i64 y)) := Lib.hid fun z hz => HCELL.out _ (hc2.trans (hz.mono z2))
            have HRW : Hid (rowsV rgV (V ++ [(⟨x, y - 1⟩ : Rg)]) = rowsV rgV V ++ [.int .i64 x, .int .i64 (y - 1)]) := Lib.hid (by rw [rowsV_app]; rfl)
            have HB2 := Lib.hid hB2
            go_upto_region 14 with (fail)
            refine wp_world (fun X => Below x2.heap.size x2 X) (by (repeat (first | (with_reducible refine Below.drew ?_) | (with_reducible refine below_drewN ?_ _) | (with_reducible refine Below.alloc ?_ (by first | omega | (simp; done) | (simp; omega) | (simp at *; omega)) _) | (with_reducible refine Below.setCell ?_ (by first | omega | (simp; done) | (simp; omega) | (simp at *; omega)) _) | (with_reducible exact Below.refl _ _) | (with_reducible assumption) | (with_reducible refine Below.trans ?_ (Below.mono (by assumption) (by first | omega | (simp; done) | (simp; omega) | (simp at *; omega))))))) (fun x3 hx3 => ?_)
            refine wp_region_held_drew (S := (fun w' => w'.cell? ⟨b, off + k, none⟩ = some (.int .i64 x) ∧ w'.cell? ⟨b, off + (k + 1), none⟩ = some (.int .i64 y))) (by kernel_rfl) (by exact HQ.out _ hx3.drew) (fun hHeld => ?_)
            have hT0 : Below x2.heap.size x2 x3.drew := hx3.drew
            generalize hdr : x3.drew = v0 at *
            clear hdr
            refine tkH 0 ⟨some 70, _, _, _, _, _⟩ ?_ rfl ?_ (by assumption) ?_
            rotate_left
            · (intro w hSw; (try dsimp only at hSw); go_simp; all_goals with_reducible rfl)
            try simp only [Act.put, sA, sB, sC]
            refine tkH 1 ⟨some 71, _, _, _, _, _⟩ ?_ rfl ?_ (by assumption) ?_
            rotate_left
            · (intro w hSw; (try dsimp only at hSw); go_simp; all_goals with_reducible rfl)
            try simp only [Act.put, sA, sB, sC]
            refine tkH 2 ⟨some 72, _, _, _, _, _⟩ ?_ rfl ?_ (by assumption) ?_
            rotate_left
            · (intro w hSw; (try dsimp only at hSw); go_simp; all_goals with_reducible rfl)
            try simp only [Act.put, sA, sB, sC]
            refine tkH 3 ⟨some 73, _, _, _, _, _⟩ ?_ rfl ?_ (by assumption) ?_
            rotate_left
            · (intro w hSw; (try dsimp only at hSw); go_simp; all_goals with_reducible rfl)
            try simp only [Act.put, sA, sB, sC]
            refine tkH 4 ⟨some 74, _, _, _, _, _⟩ ?_ rfl ?_ (by assumption) ?_
            rotate_left
            · (intro w hSw; (try dsimp only at hSw); go_simp; all_goals with_reducible rfl)
            try simp only [Act.put, sA, sB, sC]
            refine tkH 5 ⟨some 75, _, _, _, _, _⟩ ?_ rfl ?_ (by assumption) ?_
            rotate_left
            · (intro w hSw; (try dsimp only at hSw); go_simp; all_goals with_reducible rfl)
            try simp only [Act.put, sA, sB, sC]
            refine tkH 6 ⟨some 76, _, _, _, _, _⟩ ?_ rfl ?_ (by assumption) ?_
            rotate_left
            · (intro w hSw; (try dsimp only at hSw); go_simp; all_goals with_reducible rfl)
            try simp only [Act.put, sA, sB, sC]
            refine tkH 7 ⟨some 77, _, _, _, _, _⟩ ?_ rfl ?_ (by assumption) ?_
            rotate_left
            · (intro w hSw; (try dsimp only at hSw); go_simp; all_goals with_reducible rfl)
            try simp only [Act.put, sA, sB, sC]
            refine tkH 8 ⟨some 78, _, _, _, _, _⟩ ?_ rfl ?_ (by assumption) ?_
            rotate_left
            · (intro w hSw; (try dsimp only at hSw); go_simp; all_goals with_reducible rfl)
            try simp only [Act.put, sA, sB, sC]
            refine tkH 9 ⟨some 79, _, _, _, _, _⟩ ?_ rfl ?_ (by assumption) ?_
            rotate_left
            · (intro w hSw; (try dsimp only at hSw); go_simp; all_goals with_reducible rfl)
            try simp only [Act.put, sA, sB, sC]
            refine tkH 10 ⟨some 80, _, _, _, _, _⟩ ?_ rfl ?_ (by assumption) ?_
            rotate_left
            · (intro w hSw; (try dsimp only at hSw); go_simp; all_goals with_reducible rfl)
            try simp only [Act.put, sA, sB, sC]
            refine tkH 11 ⟨some 81, _, _, _, _, _⟩ ?_ rfl ?_ (by assumption) ?_
            rotate_left
            · (intro w hSw; (try dsimp only at hSw); go_simp; all_goals with_reducible rfl)
            try simp only [Act.put, sA, sB, sC]
            refine wpAnyH_ready (rs := [12]) (by kernel_rfl) (by simp) ?_
            refine AllReadyH.cons rfl (fun K hK => ?_) (AllReadyH.nil)
            go_simp
            go_wp2_with fail
            refine hK.out _ _ (HQ.out _ (hT0.alloc hT0.size _)) (fun hHeld => ?_)
            clear hK K
            try simp only [Act.put, sA, sB, sC]
            obtain ⟨bm, ebm⟩ : ∃ x, v0.heap.size = x := ⟨_, rfl⟩
            generalize hq1 : v0.alloc (.cells #[.int .i64 x, .int .i64 (y - 1)] 26) = v1
            have hb1 : Below v0.heap.size v0 v1 := by rw [← hq1]; exact (Below.refl _ _).alloc (Nat.le_refl _) _
            have HM : Hid (v1.cell? ⟨bm, 0, none⟩ = some (.int .i64 x) ∧ v1.cell? ⟨bm, 1, none⟩ = some (.int .i64 (y - 1))) := Lib.hid (by rw [← hq1, ← ebm]; exact ⟨by simp [go_sem], by simp [go_sem]⟩)
            have hT1 : Below x2.heap.size x2 v1 := hT0.trans (hb1.mono hT0.size)
            have HE1 := Lib.hid (own_below HO2.out hT1 (Nat.le_refl _))
            have hW1 : Below wa.heap.size wa v1 := HB2.out.trans (hT1.mono HB2.out.size)
            rw [ebm]
            clear hq1 hb1 hT0
            refine wpAnyH_ready (rs := [13]) (by kernel_rfl) (by simp) ?_
            refine AllReadyH.cons rfl (fun K hK => ?_) (AllReadyH.nil)
            rw [if_pos (by kernel_rfl)]
            refine oper_app_any _ _ 32 rfl wa.heap.size 26 j0 (.agg #[.int .i64 0, .int .i64 0]) 2 16 Tryz.underlying32 JI.out JZ0.out JZ1.out JZ2.out rfl (by decide) _ r (rowsV rgV V) rfl HE1.out ⟨bm, 0, none⟩ 1 1 [.int .i64 x, .int .i64 (y - 1)] rfl rfl ?a0 ?a1 ?a2 ?a3 hW1.size ?_
            case a0 =>
              intro j v hj
              match j, hj with
              | 0, hj => simp at hj; subst hj; exact HM.out.1
              | 1, hj => simp at hj; subst hj; exact HM.out.2
            case a1 => intro v hv; simp at hv; rcases hv with rfl | rfl <;> rfl
            case a2 => unfold maxLen; omega
            case a3 => omega
            intro v' x5 hown hgrow hblk
            have hB5 : Below wa.heap.size wa x5 := hW1.grown hgrow hW1.size (fun r hr => (own_block HE1.out r hr).1)
            have hown2 : x5.ownsRow wa.heap.size 26 2 v' (V ++ [(⟨x, y - 1⟩ : Rg)]).length (rowsV rgV (V ++ [(⟨x, y - 1⟩ : Rg)])) := by rw [HRW.out, List.length_append, hst.out]; exact hown
            obtain ⟨G5, cg5, hv5, _, _, _, _, _⟩ := SlRows_own (f := rgV) (n := 2) (fun _ => rfl) hown2
            rw [List.length_append, hst.out] at hv5
            simp only [List.length_cons, List.length_nil, Nat.zero_add] at hv5
            subst hv5
            have HO5 : Hid (x5.ownsRow wa.heap.size 26 2 (.slice G5 (r + 1) cg5) (r + 1) (rowsV rgV (V ++ [(⟨x, y - 1⟩ : Rg)]))) := Lib.hid (by rw [List.length_append, hst.out] at hown2; exact hown2)
            have HB5 := Lib.hid hB5
            have hsx : x5.cell? ⟨b, off + k, none⟩ = some (.int .i64 x) ∧ x5.cell? ⟨b, off + (k + 1), none⟩ = some (.int .i64 y) := HWA.out _ hB5
            clear hown hown2 hblk hgrow hB5
            refine hK.out _ _ hsx (fun hHeld => ?_)
            clear hK K
            try simp only [Act.put, sA, sB, sC]
            refine tkH 14 ⟨some 8, _, _, _, _, _⟩ ?_ rfl ?_ (by assumption) ?_
            rotate_left
            · (intro w hSw; (try dsimp only at hSw); go_simp; all_goals with_reducible rfl)
            try simp only [Act.put, sA, sB, sC]
            refine wpAnyH_done (by kernel_rfl) ?_ _
            go_wp2
            go_roundw
            case rel => exact ⟨k + 1, r + 1, G5, cg5, rfl, by go_num, by omega, by omega, Or.inr (by omega), Lib.hid (by rw [HS.out]; simp [hst.out]), Lib.hid (by rw [HS.out]; exact HO5.out), HB5.out⟩
            case measure => (simp [intOf]) <;> omega
      | true =>
        cases pB with
        | false =>
          go_wp2_with fail
          refine (refIn_is LB B nb cb x false _ hnb (by omega) (Lib.hid (HXB.out _ (by exact (by (repeat (first | (with_reducible refine Below.drew ?_) | (with_reducible refine below_drewN ?_ _) | (with_reducible refine Below.alloc ?_ (by first | omega | (simp; done) | (simp; omega) | (simp at *; omega)) _) | (with_reducible refine Below.setCell ?_ (by first | omega | (simp; done) | (simp; omega) | (simp at *; omega)) _) | (with_reducible exact Below.refl _ _) | (with_reducible assumption) | (with_reducible refine Below.trans ?_ (Below.mono (by assumption) (by first | omega | (simp; done) | (simp; omega) | (simp at *; omega)))))))))) hpB).mono ?_
          rintro e x2 ⟨rfl, hb2⟩
          have hc2 : Below wr.heap.size wr x2 := hc1.trans (hb2.mono z1)
          obtain ⟨u0, u1⟩ := HCELL.out _ hc2
          have z2 := hc2.size
          have hB2 : Below wa.heap.size wa x2 := hB.trans (hc2.mono hsz)
          have HO2 := Lib.hid (own_below HO.out hc2 (Nat.le_refl _))
          have s2 := hB2.size
          clear hb2 g0 g1 hc1 hB1 z1
          obtain ⟨V, hV⟩ : ∃ V, Hid (cmL c l k = V) := ⟨_, Lib.hid rfl⟩
          rw [hV.out] at hst HO2
          have hvI := cmL_is c HASC.out k (by omega)
          rw [hV.out] at hvI
          have HCT : c (l.getD k 0) = true := by rw [hx.out, HCX.out]; rfl
          by_cases hr0 : 0 < r
          · have ri : (0 : Int) < (r : Int) := by omega
            have rd : decide ((0 : Int) < (r : Int)) = true := by simpa using ri
            have er : IntKind.i64.wrap ((r : Int) - 1) = (r : Int) - 1 := IntWalk.i64_in _ (by omega)
            have l2 : (0 : Int) ≤ (r : Int) - 1 := by omega
            have l3 : ((r : Int) - 1).toNat = r - 1 := by omega
            have l4 : (r : Int) - 1 < (r : Int) := by omega
            have hne : V ≠ [] := by intro h; rw [h] at hst; have := hst.out; simp at this; omega
            obtain ⟨pv, ⟨va, vh⟩, ev⟩ : ∃ p r, V = p ++ [r] := ⟨_, _, (List.dropLast_concat_getLast hne).symm⟩
            have hvl : V.getD (V.length - 1) default = ⟨va, vh⟩ := by rw [ev]; simp
            have hvh := hvI.hi ⟨va, vh⟩ (by rw [ev]; simp)
            have hvg := hvI.gap.1 ⟨va, vh⟩ (by rw [ev]; simp)
            rw [hx.out] at hvh
            dsimp only at hvh hvg
            have hvlo : -1 ≤ vh := by
              have hmem := (hvI.mem va).1 (inW_iff.2 ⟨⟨va, vh⟩, by rw [ev]; simp, Int.le_refl _, hvg⟩)
              obtain ⟨i, hi, h1, _⟩ := hmem
              have := (HBND.out i (by rw [hq.out]; omega)).1
              omega
            have ew : IntKind.i64.wrap (vh + 1) = vh + 1 := IntWalk.i64_in _ (by omega)
            have hO2 := HO2.out
            obtain ⟨g, rfl, hgb, y0, yf⟩ : ∃ g, G = some ⟨g, 0, none⟩ ∧ wa.heap.size ≤ g ∧ x2.cell? ⟨g, (r - 1) * 2 + 1, none⟩ = some (.int .i64 vh) ∧ x2.frozen? ⟨g, (r - 1) * 2 + 1, none⟩ = false := by
              rcases hO2.2 with ⟨hv, h0⟩ | ⟨g, cap', cur, hv, hg, hh, hle, hcap, hs, ht⟩
              · omega
              · injection hv with e1 e2 e3
                refine ⟨g, e1, hg, ?_, by simp [World.frozen?, hh]⟩
                have hlr : (r - 1) * 2 + 1 < r * 2 := by omega
                have h1 : (cur.toList.take (r * 2))[(r - 1) * 2 + 1]? = (rowsV rgV V)[(r - 1) * 2 + 1]? := by rw [ht]
                rw [List.getElem?_take_of_lt hlr, rowsV_at (f := rgV) (n := 2) (fun _ => rfl) (k := r - 1) (by rw [hst.out]; omega) (i := 1) (by omega)] at h1
                have h2 : V[r - 1]'(by rw [hst.out]; omega) = ⟨va, vh⟩ := by
                  have := hvl
                  rw [hst.out, List.getD_eq_getElem?_getD, List.getElem?_eq_getElem (by rw [hst.out]; omega)] at this
                  exact this
                rw [h2] at h1
                simp only [World.cell?, hh]
                simpa [rgV] using h1
            have HO3 := Lib.hid hO2
            clear hO2
            by_cases hjn : vh + 1 = x
            · have hjb : (vh + 1 == x) = true := by simp [hjn]
              have HS : Hid (cmL c l (k + 1) = setHi V (y - 1)) := Lib.hid (by rw [cmL, hV.out, if_pos HCT, hx.out, hy.out, if_pos (by unfold joinB; rw [hvl, hst.out]; simp [hjn]; omega)])
              have HRW := Lib.hid (rowsV_setHi V (y - 1) hne)
              rw [hst.out] at HRW
              have HO4 := Lib.hid (own_set HO3.out (j := (r - 1) * 2 + 1) (by omega) (.int .i64 (y - 1)))
              clear hvI hvh hvg hvl ev hne HCT hjn
              go_upto_region 12 with (fail)
              go_big_quiet (fail)
              go_wp2
              go_roundw
              case rel => exact ⟨k + 1, r, some ⟨g, 0, none⟩, cg, rfl, by go_num, by omega, by omega, Or.inr (by omega), Lib.hid (by rw [HS.out]; simp [setHi, hst.out]), Lib.hid (by rw [HS.out, HRW.out]; exact own_drewN HO4.out), (by (repeat (first | (with_reducible refine Below.drew ?_) | (with_reducible refine below_drewN ?_ _) | (with_reducible refine Below.alloc ?_ (by first | omega | (simp; done) | (simp; omega) | (simp at *; omega)) _) | (with_reducible refine Below.setCell ?_ (by first | omega | (simp; done) | (simp; omega) | (simp at *; omega)) _) | (with_reducible exact Below.refl _ _) | (with_reducible assumption) | (with_reducible refine Below.trans ?_ (Below.mono (by assumption) (by first | omega | (simp; done) | (simp; omega) | (simp at *; omega)))))))⟩
              case measure => (simp [intOf]) <;> omega
            · have hjb : (vh + 1 == x) = false := by simpa using hjn
              have HS : Hid (cmL c l (k + 1) = V ++ [(⟨x, y - 1⟩ : Rg)]) := Lib.hid (by rw [cmL, hV.out, if_pos HCT, hx.out, hy.out, if_neg (by unfold joinB; rw [hvl]; simp [hjn])])
              clear hvI hvh hvg hvl ev hne HCT hjn
              go_upto_region 12 with (fail)
              go_big_quiet (fail)
              have HQ : Hid (∀ z, Below x2.heap.size x2 z → z.cell? ⟨b, off + k, none⟩ = some (.int .i64 x) ∧ z.cell? ⟨b, off + (k + 1), none⟩ = some (.int .i64 y)) := Lib.hid fun z hz => HCELL.out _ (hc2.trans (hz.mono z2))
              have HRW : Hid (rowsV rgV (V ++ [(⟨x, y - 1⟩ : Rg)]) = rowsV rgV V ++ [.int .i64 x, .int .i64 (y - 1)]) := Lib.hid (by rw [rowsV_app]; rfl)
              have HB2 := Lib.hid hB2
              go_upto_region 14 with (fail)
              refine wp_world (fun X => Below x2.heap.size x2 X) (by (repeat (first | (with_reducible refine Below.drew ?_) | (with_reducible refine below_drewN ?_ _) | (with_reducible refine Below.alloc ?_ (by first | omega | (simp; done) | (simp; omega) | (simp at *; omega)) _) | (with_reducible refine Below.setCell ?_ (by first | omega | (simp; done) | (simp; omega) | (simp at *; omega)) _) | (with_reducible exact Below.refl _ _) | (with_reducible assumption) | (with_reducible refine Below.trans ?_ (Below.mono (by assumption) (by first | omega | (simp; done) | (simp; omega) | (simp at *; omega))))))) (fun x3 hx3 => ?_)
              refine wp_region_held_drew (S := (fun w' => w'.cell? ⟨b, off + k, none⟩ = some (.int .i64 x) ∧ w'.cell? ⟨b, off + (k + 1), none⟩ = some (.int .i64 y))) (by kernel_rfl) (by exact HQ.out _ hx3.drew) (fun hHeld => ?_)
              have hT0 : Below x2.heap.size x2 x3.drew := hx3.drew
              generalize hdr : x3.drew = v0 at *
              clear hdr
              refine tkH 0 ⟨some 70, _, _, _, _, _⟩ ?_ rfl ?_ (by assumption) ?_
              rotate_left
              · (intro w hSw; (try dsimp only at hSw); go_simp; all_goals with_reducible rfl)
              try simp only [Act.put, sA, sB, sC]
              refine tkH 1 ⟨some 71, _, _, _, _, _⟩ ?_ rfl ?_ (by assumption) ?_
              rotate_left
              · (intro w hSw; (try dsimp only at hSw); go_simp; all_goals with_reducible rfl)
              try simp only [Act.put, sA, sB, sC]
              refine tkH 2 ⟨some 72, _, _, _, _, _⟩ ?_ rfl ?_ (by assumption) ?_
              rotate_left
              · (intro w hSw; (try dsimp only at hSw); go_simp; all_goals with_reducible rfl)
              try simp only [Act.put, sA, sB, sC]
              refine tkH 3 ⟨some 73, _, _, _, _, _⟩ ?_ rfl ?_ (by assumption) ?_
              rotate_left
              · (intro w hSw; (try dsimp only at hSw); go_simp; all_goals with_reducible rfl)
              try simp only [Act.put, sA, sB, sC]
              refine tkH 4 ⟨some 74, _, _, _, _, _⟩ ?_ rfl ?_ (by assumption) ?_
              rotate_left
              · (intro w hSw; (try dsimp only at hSw); go_simp; all_goals with_reducible rfl)
              try simp only [Act.put, sA, sB, sC]
              refine tkH 5 ⟨some 75, _, _, _, _, _⟩ ?_ rfl ?_ (by assumption) ?_
              rotate_left
              · (intro w hSw; (try dsimp only at hSw); go_simp; all_goals with_reducible rfl)
              try simp only [Act.put, sA, sB, sC]
              refine tkH 6 ⟨some 76, _, _, _, _, _⟩ ?_ rfl ?_ (by assumption) ?_
              rotate_left
              · (intro w hSw; (try dsimp only at hSw); go_simp; all_goals with_reducible rfl)
              try simp only [Act.put, sA, sB, sC]
              refine tkH 7 ⟨some 77, _, _, _, _, _⟩ ?_ rfl ?_ (by assumption) ?_
              rotate_left
              · (intro w hSw; (try dsimp only at hSw); go_simp; all_goals with_reducible rfl)
              try simp only [Act.put, sA, sB, sC]
              refine tkH 8 ⟨some 78, _, _, _, _, _⟩ ?_ rfl ?_ (by assumption) ?_
              rotate_left
              · (intro w hSw; (try dsimp only at hSw); go_simp; all_goals with_reducible rfl)
              try simp only [Act.put, sA, sB, sC]
              refine tkH 9 ⟨some 79, _, _, _, _, _⟩ ?_ rfl ?_ (by assumption) ?_
              rotate_left
              · (intro w hSw; (try dsimp only at hSw); go_simp; all_goals with_reducible rfl)
              try simp only [Act.put, sA, sB, sC]
              refine tkH 10 ⟨some 80, _, _, _, _, _⟩ ?_ rfl ?_ (by assumption) ?_
              rotate_left
              · (intro w hSw; (try dsimp only at hSw); go_simp; all_goals with_reducible rfl)
              try simp only [Act.put, sA, sB, sC]
              refine tkH 11 ⟨some 81, _, _, _, _, _⟩ ?_ rfl ?_ (by assumption) ?_
              rotate_left
              · (intro w hSw; (try dsimp only at hSw); go_simp; all_goals with_reducible rfl)
              try simp only [Act.put, sA, sB, sC]
              refine wpAnyH_ready (rs := [12]) (by kernel_rfl) (by simp) ?_
              refine AllReadyH.cons rfl (fun K hK => ?_) (AllReadyH.nil)
              go_simp
              go_wp2_with fail
              refine hK.out _ _ (HQ.out _ (hT0.alloc hT0.size _)) (fun hHeld => ?_)
              clear hK K
              try simp only [Act.put, sA, sB, sC]
              obtain ⟨bm, ebm⟩ : ∃ x, v0.heap.size = x := ⟨_, rfl⟩
              generalize hq1 : v0.alloc (.cells #[.int .i64 x, .int .i64 (y - 1)] 26) = v1
              have hb1 : Below v0.heap.size v0 v1 := by rw [← hq1]; exact (Below.refl _ _).alloc (Nat.le_refl _) _
              have HM : Hid (v1.cell? ⟨bm, 0, none⟩ = some (.int .i64 x) ∧ v1.cell? ⟨bm, 1, none⟩ = some (.int .i64 (y - 1))) := Lib.hid (by rw [← hq1, ← ebm]; exact ⟨by simp [go_sem], by simp [go_sem]⟩)
              have hT1 : Below x2.heap.size x2 v1 := hT0.trans (hb1.mono hT0.size)
              have HE1 := Lib.hid (own_below HO3.out hT1 (Nat.le_refl _))
              have hW1 : Below wa.heap.size wa v1 := HB2.out.trans (hT1.mono HB2.out.size)
              rw [ebm]
              clear hq1 hb1 hT0
              refine wpAnyH_ready (rs := [13]) (by kernel_rfl) (by simp) ?_
              refine AllReadyH.cons rfl (fun K hK => ?_) (AllReadyH.nil)
              rw [if_pos (by kernel_rfl)]
              refine oper_app_any _ _ 32 rfl wa.heap.size 26 j0 (.agg #[.int .i64 0, .int .i64 0]) 2 16 Tryz.underlying32 JI.out JZ0.out JZ1.out JZ2.out rfl (by decide) _ r (rowsV rgV V) rfl HE1.out ⟨bm, 0, none⟩ 1 1 [.int .i64 x, .int .i64 (y - 1)] rfl rfl ?a0 ?a1 ?a2 ?a3 hW1.size ?_
              case a0 =>
                intro j v hj
                match j, hj with
                | 0, hj => simp at hj; subst hj; exact HM.out.1
                | 1, hj => simp at hj; subst hj; exact HM.out.2
              case a1 => intro v hv; simp at hv; rcases hv with rfl | rfl <;> rfl
              case a2 => unfold maxLen; omega
              case a3 => omega
              intro v' x5 hown hgrow hblk
              have hB5 : Below wa.heap.size wa x5 := hW1.grown hgrow hW1.size (fun r hr => (own_block HE1.out r hr).1)
              have hown2 : x5.ownsRow wa.heap.size 26 2 v' (V ++ [(⟨x, y - 1⟩ : Rg)]).length (rowsV rgV (V ++ [(⟨x, y - 1⟩ : Rg)])) := by rw [HRW.out, List.length_append, hst.out]; exact hown
              obtain ⟨G5, cg5, hv5, _, _, _, _, _⟩ := SlRows_own (f := rgV) (n := 2) (fun _ => rfl) hown2
              rw [List.length_append, hst.out] at hv5
              simp only [List.length_cons, List.length_nil, Nat.zero_add] at hv5
              subst hv5
              have HO5 : Hid (x5.ownsRow wa.heap.size 26 2 (.slice G5 (r + 1) cg5) (r + 1) (rowsV rgV (V ++ [(⟨x, y - 1⟩ : Rg)]))) := Lib.hid (by rw [List.length_append, hst.out] at hown2; exact hown2)
              have HB5 := Lib.hid hB5
              have hsx : x5.cell? ⟨b, off + k, none⟩ = some (.int .i64 x) ∧ x5.cell? ⟨b, off + (k + 1), none⟩ = some (.int .i64 y) := HWA.out _ hB5
              clear hown hown2 hblk hgrow hB5
              refine hK.out _ _ hsx (fun hHeld => ?_)
              clear hK K
              try simp only [Act.put, sA, sB, sC]
              refine tkH 14 ⟨some 8, _, _, _, _, _⟩ ?_ rfl ?_ (by assumption) ?_
              rotate_left
              · (intro w hSw; (try dsimp only at hSw); go_simp; all_goals with_reducible rfl)
              try simp only [Act.put, sA, sB, sC]
              refine wpAnyH_done (by kernel_rfl) ?_ _
              go_wp2
              go_roundw
              case rel => exact ⟨k + 1, r + 1, G5, cg5, rfl, by go_num, by omega, by omega, Or.inr (by omega), Lib.hid (by rw [HS.out]; simp [hst.out]), Lib.hid (by rw [HS.out]; exact HO5.out), HB5.out⟩
              case measure => (simp [intOf]) <;> omega
          · have rr : Hid (r = 0) := Lib.hid (by omega)
            have rd : decide ((0 : Int) < (r : Int)) = false := by rw [rr.out]; rfl
            have rd2 : ¬ (0 : Int) < (r : Int) := by omega
            have HS : Hid (cmL c l (k + 1) = V ++ [(⟨x, y - 1⟩ : Rg)]) := Lib.hid (by rw [cmL, hV.out, if_pos HCT, hx.out, hy.out, if_neg (by unfold joinB; rw [hst.out, rr.out]; simp)])
            have rdn : decide (0 < r) = false := by simpa using hr0
            clear hvI HCT
            go_upto_region 12 with (fail)
            go_big_quiet (fail)
            have HQ : Hid (∀ z, Below x2.heap.size x2 z → z.cell? ⟨b, off + k, none⟩ = some (.int .i64 x) ∧ z.cell? ⟨b, off + (k + 1), none⟩ = some (.int .i64 y)) := Lib.hid fun z hz => HCELL.out _ (hc2.trans (hz.mono z2))
            have HRW : Hid (rowsV rgV (V ++ [(⟨x, y - 1⟩ : Rg)]) = rowsV rgV V ++ [.int .i64 x, .int .i64 (y - 1)]) := Lib.hid (by rw [rowsV_app]; rfl)
            have HB2 := Lib.hid hB2
            go_upto_region 14 with (fail)
            refine wp_world (fun X => Below x2.heap.size x2 X) (by (repeat (first | (with_reducible refine Below.drew ?_) | (with_reducible refine below_drewN ?_ _) | (with_reducible refine Below.alloc ?_ (by first | omega | (simp; done) | (simp; omega) | (simp at *; omega)) _) | (with_reducible refine Below.setCell ?_ (by first | omega | (simp; done) | (simp; omega) | (simp at *; omega)) _) | (with_reducible exact Below.refl _ _) | (with_reducible assumption) | (with_reducible refine Below.trans ?_ (Below.mono (by assumption) (by first | omega | (simp; done) | (simp; omega) | (simp at *; omega))))))) (fun x3 hx3 => ?_)
            refine wp_region_held_drew (S := (fun w' => w'.cell? ⟨b, off + k, none⟩ = some (.int .i64 x) ∧ w'.cell? ⟨b, off + (k + 1), none⟩ = some (.int .i64 y))) (by kernel_rfl) (by exact HQ.out _ hx3.drew) (fun hHeld => ?_)
            have hT0 : Below x2.heap.size x2 x3.drew := hx3.drew
            generalize hdr : x3.drew = v0 at *
            clear hdr
            refine tkH 0 ⟨some 70, _, _, _, _, _⟩ ?_ rfl ?_ (by assumption) ?_
            rotate_left
            · (intro w hSw; (try dsimp only at hSw); go_simp; all_goals with_reducible rfl)
            try simp only [Act.put, sA, sB, sC]
            refine tkH 1 ⟨some 71, _, _, _, _, _⟩ ?_ rfl ?_ (by assumption) ?_
            rotate_left
            · (intro w hSw; (try dsimp only at hSw); go_simp; all_goals with_reducible rfl)
            try simp only [Act.put, sA, sB, sC]
            refine tkH 2 ⟨some 72, _, _, _, _, _⟩ ?_ rfl ?_ (by assumption) ?_
            rotate_left
            · (intro w hSw; (try dsimp only at hSw); go_simp; all_goals with_reducible rfl)
            try simp only [Act.put, sA, sB, sC]
            refine tkH 3 ⟨some 73, _, _, _, _, _⟩ ?_ rfl ?_ (by assumption) ?_
            rotate_left
            · (intro w hSw; (try dsimp only at hSw); go_simp; all_goals with_reducible rfl)
            try simp only [Act.put, sA, sB, sC]
            refine tkH 4 ⟨some 74, _, _, _, _, _⟩ ?_ rfl ?_ (by assumption) ?_
            rotate_left
            · (intro w hSw; (try dsimp only at hSw); go_simp; all_goals with_reducible rfl)
            try simp only [Act.put, sA, sB, sC]
            refine tkH 5 ⟨some 75, _, _, _, _, _⟩ ?_ rfl ?_ (by assumption) ?_
            rotate_left
            · (intro w hSw; (try dsimp only at hSw); go_simp; all_goals with_reducible rfl)
            try simp only [Act.put, sA, sB, sC]
            refine tkH 6 ⟨some 76, _, _, _, _, _⟩ ?_ rfl ?_ (by assumption) ?_
            rotate_left
            · (intro w hSw; (try dsimp only at hSw); go_simp; all_goals with_reducible rfl)
            try simp only [Act.put, sA, sB, sC]
            refine tkH 7 ⟨some 77, _, _, _, _, _⟩ ?_ rfl ?_ (by assumption) ?_
            rotate_left
            · (intro w hSw; (try dsimp only at hSw); go_simp; all_goals with_reducible rfl)
            try simp only [Act.put, sA, sB, sC]
            refine tkH 8 ⟨some 78, _, _, _, _, _⟩ ?_ rfl ?_ (by assumption) ?_
            rotate_left
            · (intro w hSw; (try dsimp only at hSw); go_simp; all_goals with_reducible rfl)
            try simp only [Act.put, sA, sB, sC]
            refine tkH 9 ⟨some 79, _, _, _, _, _⟩ ?_ rfl ?_ (by assumption) ?_
            rotate_left
            · (intro w hSw; (try dsimp only at hSw); go_simp; all_goals with_reducible rfl)
            try simp only [Act.put, sA, sB, sC]
            refine tkH 10 ⟨some 80, _, _, _, _, _⟩ ?_ rfl ?_ (by assumption) ?_
            rotate_left
            · (intro w hSw; (try dsimp only at hSw); go_simp; all_goals with_reducible rfl)
            try simp only [Act.put, sA, sB, sC]
            refine tkH 11 ⟨some 81, _, _, _, _, _⟩ ?_ rfl ?_ (by assumption) ?_
            rotate_left
            · (intro w hSw; (try dsimp only at hSw); go_simp; all_goals with_reducible rfl)
            try simp only [Act.put, sA, sB, sC]
            refine wpAnyH_ready (rs := [12]) (by kernel_rfl) (by simp) ?_
            refine AllReadyH.cons rfl (fun K hK => ?_) (AllReadyH.nil)
            go_simp
            go_wp2_with fail
            refine hK.out _ _ (HQ.out _ (hT0.alloc hT0.size _)) (fun hHeld => ?_)
            clear hK K
            try simp only [Act.put, sA, sB, sC]
            obtain ⟨bm, ebm⟩ : ∃ x, v0.heap.size = x := ⟨_, rfl⟩
            generalize hq1 : v0.alloc (.cells #[.int .i64 x, .int .i64 (y - 1)] 26) = v1
            have hb1 : Below v0.heap.size v0 v1 := by rw [← hq1]; exact (Below.refl _ _).alloc (Nat.le_refl _) _
            have HM : Hid (v1.cell? ⟨bm, 0, none⟩ = some (.int .i64 x) ∧ v1.cell? ⟨bm, 1, none⟩ = some (.int .i64 (y - 1))) := Lib.hid (by rw [← hq1, ← ebm]; exact ⟨by simp [go_sem], by simp [go_sem]⟩)
            have hT1 : Below x2.heap.size x2 v1 := hT0.trans (hb1.mono hT0.size)
            have HE1 := Lib.hid (own_below HO2.out hT1 (Nat.le_refl _))
            have hW1 : Below wa.heap.size wa v1 := HB2.out.trans (hT1.mono HB2.out.size)
            rw [ebm]
            clear hq1 hb1 hT0
            refine wpAnyH_ready (rs := [13]) (by kernel_rfl) (by simp) ?_
            refine AllReadyH.cons rfl (fun K hK => ?_) (AllReadyH.nil)
            rw [if_pos (by kernel_rfl)]
            refine oper_app_any _ _ 32 rfl wa.heap.size 26 j0 (.agg #[.int .i64 0, .int .i64 0]) 2 16 Tryz.underlying32 JI.out JZ0.out JZ1.out JZ2.out rfl (by decide) _ r (rowsV rgV V) rfl HE1.out ⟨bm, 0, none⟩ 1 1 [.int .i64 x, .int .i64 (y - 1)] rfl rfl ?a0 ?a1 ?a2 ?a3 hW1.size ?_
            case a0 =>
              intro j v hj
              match j, hj with
              | 0, hj => simp at hj; subst hj; exact HM.out.1
              | 1, hj => simp at hj; subst hj; exact HM.out.2
            case a1 => intro v hv; simp at hv; rcases hv with rfl | rfl <;> rfl
            case a2 => unfold maxLen; omega
            case a3 => omega
            intro v' x5 hown hgrow hblk
            have hB5 : Below wa.heap.size wa x5 := hW1.grown hgrow hW1.size (fun r hr => (own_block HE1.out r hr).1)
            have hown2 : x5.ownsRow wa.heap.size 26 2 v' (V ++ [(⟨x, y - 1⟩ : Rg)]).length (rowsV rgV (V ++ [(⟨x, y - 1⟩ : Rg)])) := by rw [HRW.out, List.length_append, hst.out]; exact hown
            obtain ⟨G5, cg5, hv5, _, _, _, _, _⟩ := SlRows_own (f := rgV) (n := 2) (fun _ => rfl) hown2
            rw [List.length_append, hst.out] at hv5
            simp only [List.length_cons, List.length_nil, Nat.zero_add] at hv5
            subst hv5
            have HO5 : Hid (x5.ownsRow wa.heap.size 26 2 (.slice G5 (r + 1) cg5) (r + 1) (rowsV rgV (V ++ [(⟨x, y - 1⟩ : Rg)]))) := Lib.hid (by rw [List.length_append, hst.out] at hown2; exact hown2)
            have HB5 := Lib.hid hB5
            have hsx : x5.cell? ⟨b, off + k, none⟩ = some (.int .i64 x) ∧ x5.cell? ⟨b, off + (k + 1), none⟩ = some (.int .i64 y) := HWA.out _ hB5
            clear hown hown2 hblk hgrow hB5
            refine hK.out _ _ hsx (fun hHeld => ?_)
            clear hK K
            try simp only [Act.put, sA, sB, sC]
            refine tkH 14 ⟨some 8, _, _, _, _, _⟩ ?_ rfl ?_ (by assumption) ?_
            rotate_left
            · (intro w hSw; (try dsimp only at hSw); go_simp; all_goals with_reducible rfl)
            try simp only [Act.put, sA, sB, sC]
            refine wpAnyH_done (by kernel_rfl) ?_ _
            go_wp2
            go_roundw
            case rel => exact ⟨k + 1, r + 1, G5, cg5, rfl, by go_num, by omega, by omega, Or.inr (by omega), Lib.hid (by rw [HS.out]; simp [hst.out]), Lib.hid (by rw [HS.out]; exact HO5.out), HB5.out⟩
            case measure => (simp [intOf]) <;> omega
        | true =>
          go_wp2_with fail
          refine (refIn_is LB B nb cb x true _ hnb (by omega) (Lib.hid (HXB.out _ (by exact (by (repeat (first | (with_reducible refine Below.drew ?_) | (with_reducible refine below_drewN ?_ _) | (with_reducible refine Below.alloc ?_ (by first | omega | (simp; done) | (simp; omega) | (simp at *; omega)) _) | (with_reducible refine Below.setCell ?_ (by first | omega | (simp; done) | (simp; omega) | (simp at *; omega)) _) | (with_reducible exact Below.refl _ _) | (with_reducible assumption) | (with_reducible refine Below.trans ?_ (Below.mono (by assumption) (by first | omega | (simp; done) | (simp; omega) | (simp at *; omega)))))))))) hpB).mono ?_
          rintro e x2 ⟨rfl, hb2⟩
          have hc2 : Below wr.heap.size wr x2 := hc1.trans (hb2.mono z1)
          obtain ⟨u0, u1⟩ := HCELL.out _ hc2
          have z2 := hc2.size
          have hB2 : Below wa.heap.size wa x2 := hB.trans (hc2.mono hsz)
          have HO2 := Lib.hid (own_below HO.out hc2 (Nat.le_refl _))
          have s2 := hB2.size
          clear hb2 g0 g1 hc1 hB1 z1
          obtain ⟨V, hV⟩ : ∃ V, Hid (cmL c l k = V) := ⟨_, Lib.hid rfl⟩
          rw [hV.out] at hst HO2
          have hvI := cmL_is c HASC.out k (by omega)
          rw [hV.out] at hvI
          have HCT : c (l.getD k 0) = true := by rw [hx.out, HCX.out]; rfl
          by_cases hr0 : 0 < r
          · have ri : (0 : Int) < (r : Int) := by omega
            have rd : decide ((0 : Int) < (r : Int)) = true := by simpa using ri
            have er : IntKind.i64.wrap ((r : Int) - 1) = (r : Int) - 1 := IntWalk.i64_in _ (by omega)
            have l2 : (0 : Int) ≤ (r : Int) - 1 := by omega
            have l3 : ((r : Int) - 1).toNat = r - 1 := by omega
            have l4 : (r : Int) - 1 < (r : Int) := by omega
            have hne : V ≠ [] := by intro h; rw [h] at hst; have := hst.out; simp at this; omega
            obtain ⟨pv, ⟨va, vh⟩, ev⟩ : ∃ p r, V = p ++ [r] := ⟨_, _, (List.dropLast_concat_getLast hne).symm⟩
            have hvl : V.getD (V.length - 1) default = ⟨va, vh⟩ := by rw [ev]; simp
            have hvh := hvI.hi ⟨va, vh⟩ (by rw [ev]; simp)
            have hvg := hvI.gap.1 ⟨va, vh⟩ (by rw [ev]; simp)
            rw [hx.out] at hvh
            dsimp only at hvh hvg
            have hvlo : -1 ≤ vh := by
              have hmem := (hvI.mem va).1 (inW_iff.2 ⟨⟨va, vh⟩, by rw [ev]; simp, Int.le_refl _, hvg⟩)
              obtain ⟨i, hi, h1, _⟩ := hmem
              have := (HBND.out i (by rw [hq.out]; omega)).1
              omega
            have ew : IntKind.i64.wrap (vh + 1) = vh + 1 := IntWalk.i64_in _ (by omega)
            have hO2 := HO2.out
            obtain ⟨g, rfl, hgb, y0, yf⟩ : ∃ g, G = some ⟨g, 0, none⟩ ∧ wa.heap.size ≤ g ∧ x2.cell? ⟨g, (r - 1) * 2 + 1, none⟩ = some (.int .i64 vh) ∧ x2.frozen? ⟨g, (r - 1) * 2 + 1, none⟩ = false := by
              rcases hO2.2 with ⟨hv, h0⟩ | ⟨g, cap', cur, hv, hg, hh, hle, hcap, hs, ht⟩
              · omega
              · injection hv with e1 e2 e3
                refine ⟨g, e1, hg, ?_, by simp [World.frozen?, hh]⟩
                have hlr : (r - 1) * 2 + 1 < r * 2 := by omega
                have h1 : (cur.toList.take (r * 2))[(r - 1) * 2 + 1]? = (rowsV rgV V)[(r - 1) * 2 + 1]? := by rw [ht]
                rw [List.getElem?_take_of_lt hlr, rowsV_at (f := rgV) (n := 2) (fun _ => rfl) (k := r - 1) (by rw [hst.out]; omega) (i := 1) (by omega)] at h1
                have h2 : V[r - 1]'(by rw [hst.out]; omega) = ⟨va, vh⟩ := by
                  have := hvl
                  rw [hst.out, List.getD_eq_getElem?_getD, List.getElem?_eq_getElem (by rw [hst.out]; omega)] at this
                  exact this
                rw [h2] at h1
                simp only [World.cell?, hh]
                simpa [rgV] using h1
            have HO3 := Lib.hid hO2
            clear hO2
            by_cases hjn : vh + 1 = x
            · have hjb : (vh + 1 == x) = true := by simp [hjn]
              have HS : Hid (cmL c l (k + 1) = setHi V (y - 1)) := Lib.hid (by rw [cmL, hV.out, if_pos HCT, hx.out, hy.out, if_pos (by unfold joinB; rw [hvl, hst.out]; simp [hjn]; omega)])
              have HRW := Lib.hid (rowsV_setHi V (y - 1) hne)
              rw [hst.out] at HRW
              have HO4 := Lib.hid (own_set HO3.out (j := (r - 1) * 2 + 1) (by omega) (.int .i64 (y - 1)))
              clear hvI hvh hvg hvl ev hne HCT hjn
              go_upto_region 12 with (fail)
              go_big_quiet (fail)
              go_wp2
              go_roundw
              case rel => exact ⟨k + 1, r, some ⟨g, 0, none⟩, cg, rfl, by go_num, by omega, by omega, Or.inr (by omega), Lib.hid (by rw [HS.out]; simp [setHi, hst.out]), Lib.hid (by rw [HS.out, HRW.out]; exact own_drewN HO4.out), (by (repeat (first | (with_reducible refine Below.drew ?_) | (with_reducible refine below_drewN ?_ _) | (with_reducible refine Below.alloc ?_ (by first | omega | (simp; done) | (simp; omega) | (simp at *; omega)) _) | (with_reducible refine Below.setCell ?_ (by first | omega | (simp; done) | (simp; omega) | (simp at *; omega)) _) | (with_reducible exact Below.refl _ _) | (with_reducible assumption) | (with_reducible refine Below.trans ?_ (Below.mono (by assumption) (by first | omega | (simp; done) | (simp; omega) | (simp at *; omega)))))))⟩
              case measure => (simp [intOf]) <;> omega
            · have hjb : (vh + 1 == x) = false := by simpa using hjn
              have HS : Hid (cmL c l (k + 1) = V ++ [(⟨x, y - 1⟩ : Rg)]) := Lib.hid (by rw [cmL, hV.out, if_pos HCT, hx.out, hy.out, if_neg (by unfold joinB; rw [hvl]; simp [hjn])])
              clear hvI hvh hvg hvl ev hne HCT hjn
              go_upto_region 12 with (fail)
              go_big_quiet (fail)
              have HQ : Hid (∀ z, Below x2.heap.size x2 z → z.cell? ⟨b, off + k, none⟩ = some (.int .i64 x) ∧ z.cell? ⟨b, off + (k + 1), none⟩ = some (.int .i64 y)) := Lib.hid fun z hz => HCELL.out _ (hc2.trans (hz.mono z2))
              have HRW : Hid (rowsV rgV (V ++ [(⟨x, y - 1⟩ : Rg)]) = rowsV rgV V ++ [.int .i64 x, .int .i64 (y - 1)]) := Lib.hid (by rw [rowsV_app]; rfl)
              have HB2 := Lib.hid hB2
              go_upto_region 14 with (fail)
              refine wp_world (fun X => Below x2.heap.size x2 X) (by (repeat (first | (with_reducible refine Below.drew ?_) | (with_reducible refine below_drewN ?_ _) | (with_reducible refine Below.alloc ?_ (by first | omega | (simp; done) | (simp; omega) | (simp at *; omega)) _) | (with_reducible refine Below.setCell ?_ (by first | omega | (simp; done) | (simp; omega) | (simp at *; omega)) _) | (with_reducible exact Below.refl _ _) | (with_reducible assumption) | (with_reducible refine Below.trans ?_ (Below.mono (by assumption) (by first | omega | (simp; done) | (simp; omega) | (simp at *; omega))))))) (fun x3 hx3 => ?_)
              refine wp_region_held_drew (S := (fun w' => w'.cell? ⟨b, off + k, none⟩ = some (.int .i64 x) ∧ w'.cell? ⟨b, off + (k + 1), none⟩ = some (.int .i64 y))) (by kernel_rfl) (by exact HQ.out _ hx3.drew) (fun hHeld => ?_)
              have hT0 : Below x2.heap.size x2 x3.drew := hx3.drew
              generalize hdr : x3.drew = v0 at *
              clear hdr
              refine tkH 0 ⟨some 70, _, _, _, _, _⟩ ?_ rfl ?_ (by assumption) ?_
              rotate_left
              · (intro w hSw; (try dsimp only at hSw); go_simp; all_goals with_reducible rfl)
              try simp only [Act.put, sA, sB, sC]
              refine tkH 1 ⟨some 71, _, _, _, _, _⟩ ?_ rfl ?_ (by assumption) ?_
              rotate_left
              · (intro w hSw; (try dsimp only at hSw); go_simp; all_goals with_reducible rfl)
              try simp only [Act.put, sA, sB, sC]
              refine tkH 2 ⟨some 72, _, _, _, _, _⟩ ?_ rfl ?_ (by assumption) ?_
              rotate_left
              · (intro w hSw; (try dsimp only at hSw); go_simp; all_goals with_reducible rfl)
              try simp only [Act.put, sA, sB, sC]
              refine tkH 3 ⟨some 73, _, _, _, _, _⟩ ?_ rfl ?_ (by assumption) ?_
              rotate_left
              · (intro w hSw; (try dsimp only at hSw); go_simp; all_goals with_reducible rfl)
              try simp only [Act.put, sA, sB, sC]
              refine tkH 4 ⟨some 74, _, _, _, _, _⟩ ?_ rfl ?_ (by assumption) ?_
              rotate_left
              · (intro w hSw; (try dsimp only at hSw); go_simp; all_goals with_reducible rfl)
              try simp only [Act.put, sA, sB, sC]
              refine tkH 5 ⟨some 75, _, _, _, _, _⟩ ?_ rfl ?_ (by assumption) ?_
              rotate_left
              · (intro w hSw; (try dsimp only at hSw); go_simp; all_goals with_reducible rfl)
              try simp only [Act.put, sA, sB, sC]
              refine tkH 6 ⟨some 76, _, _, _, _, _⟩ ?_ rfl ?_ (by assumption) ?_
              rotate_left
              · (intro w hSw; (try dsimp only at hSw); go_simp; all_goals with_reducible rfl)
              try simp only [Act.put, sA, sB, sC]
              refine tkH 7 ⟨some 77, _, _, _, _, _⟩ ?_ rfl ?_ (by assumption) ?_
              rotate_left
              · (intro w hSw; (try dsimp only at hSw); go_simp; all_goals with_reducible rfl)
              try simp only [Act.put, sA, sB, sC]
              refine tkH 8 ⟨some 78, _, _, _, _, _⟩ ?_ rfl ?_ (by assumption) ?_
              rotate_left
              · (intro w hSw; (try dsimp only at hSw); go_simp; all_goals with_reducible rfl)
              try simp only [Act.put, sA, sB, sC]
              refine tkH 9 ⟨some 79, _, _, _, _, _⟩ ?_ rfl ?_ (by assumption) ?_
              rotate_left
              · (intro w hSw; (try dsimp only at hSw); go_simp; all_goals with_reducible rfl)
              try simp only [Act.put, sA, sB, sC]
              refine tkH 10 ⟨some 80, _, _, _, _, _⟩ ?_ rfl ?_ (by assumption) ?_
              rotate_left
              · (intro w hSw; (try dsimp only at hSw); go_simp; all_goals with_reducible rfl)
              try simp only [Act.put, sA, sB, sC]
              refine tkH 11 ⟨some 81, _, _, _, _, _⟩ ?_ rfl ?_ (by assumption) ?_
              rotate_left
              · (intro w hSw; (try dsimp only at hSw); go_simp; all_goals with_reducible rfl)
              try simp only [Act.put, sA, sB, sC]
              refine wpAnyH_ready (rs := [12]) (by kernel_rfl) (by simp) ?_
              refine AllReadyH.cons rfl (fun K hK => ?_) (AllReadyH.nil)
              go_simp
              go_wp2_with fail
              refine hK.out _ _ (HQ.out _ (hT0.alloc hT0.size _)) (fun hHeld => ?_)
              clear hK K
              try simp only [Act.put, sA, sB, sC]
              obtain ⟨bm, ebm⟩ : ∃ x, v0.heap.size = x := ⟨_, rfl⟩
              generalize hq1 : v0.alloc (.cells #[.int .i64 x, .int .i64 (y - 1)] 26) = v1
              have hb1 : Below v0.heap.size v0 v1 := by rw [← hq1]; exact (Below.refl _ _).alloc (Nat.le_refl _) _
              have HM : Hid (v1.cell? ⟨bm, 0, none⟩ = some (.int .i64 x) ∧ v1.cell? ⟨bm, 1, none⟩ = some (.int .i64 (y - 1))) := Lib.hid (by rw [← hq1, ← ebm]; exact ⟨by simp [go_sem], by simp [go_sem]⟩)
              have hT1 : Below x2.heap.size x2 v1 := hT0.trans (hb1.mono hT0.size)
              have HE1 := Lib.hid (own_below HO3.out hT1 (Nat.le_refl _))
              have hW1 : Below wa.heap.size wa v1 := HB2.out.trans (hT1.mono HB2.out.size)
              rw [ebm]
              clear hq1 hb1 hT0
              refine wpAnyH_ready (rs := [13]) (by kernel_rfl) (by simp) ?_
              refine AllReadyH.cons rfl (fun K hK => ?_) (AllReadyH.nil)
              rw [if_pos (by kernel_rfl)]
              refine oper_app_any _ _ 32 rfl wa.heap.size 26 j0 (.agg #[.int .i64 0, .int .i64 0]) 2 16 Tryz.underlying32 JI.out JZ0.out JZ1.out JZ2.out rfl (by decide) _ r (rowsV rgV V) rfl HE1.out ⟨bm, 0, none⟩ 1 1 [.int .i64 x, .int .i64 (y - 1)] rfl rfl ?a0 ?a1 ?a2 ?a3 hW1.size ?_
              case a0 =>
                intro j v hj
                match j, hj with
                | 0, hj => simp at hj; subst hj; exact HM.out.1
                | 1, hj => simp at hj; subst hj; exact HM.out.2
              case a1 => intro v hv; simp at hv; rcases hv with rfl | rfl <;> rfl
              case a2 => unfold maxLen; omega
              case a3 => omega
              intro v' x5 hown hgrow hblk
              have hB5 : Below wa.heap.size wa x5 := hW1.grown hgrow hW1.size (fun r hr => (own_block HE1.out r hr).1)
              have hown2 : x5.ownsRow wa.heap.size 26 2 v' (V ++ [(⟨x, y - 1⟩ : Rg)]).length (rowsV rgV (V ++ [(⟨x, y - 1⟩ : Rg)])) := by rw [HRW.out, List.length_append, hst.out]; exact hown
              obtain ⟨G5, cg5, hv5, _, _, _, _, _⟩ := SlRows_own (f := rgV) (n := 2) (fun _ => rfl) hown2
              rw [List.length_append, hst.out] at hv5
              simp only [List.length_cons, List.length_nil, Nat.zero_add] at hv5
              subst hv5
              have HO5 : Hid (x5.ownsRow wa.heap.size 26 2 (.slice G5 (r + 1) cg5) (r + 1) (rowsV rgV (V ++ [(⟨x, y - 1⟩ : Rg)]))) := Lib.hid (by rw [List.length_append, hst.out] at hown2; exact hown2)
              have HB5 := Lib.hid hB5
              have hsx : x5.cell? ⟨b, off + k, none⟩ = some (.int .i64 x) ∧ x5.cell? ⟨b, off + (k + 1), none⟩ = some (.int .i64 y) := HWA.out _ hB5
              clear hown hown2 hblk hgrow hB5
              refine hK.out _ _ hsx (fun hHeld => ?_)
              clear hK K
              try simp only [Act.put, sA, sB, sC]
              refine tkH 14 ⟨some 8, _, _, _, _, _⟩ ?_ rfl ?_ (by assumption) ?_
              rotate_left
              · (intro w hSw; (try dsimp only at hSw); go_simp; all_goals with_reducible rfl)
              try simp only [Act.put, sA, sB, sC]
              refine wpAnyH_done (by kernel_rfl) ?_ _
              go_wp2
              go_roundw
              case rel => exact ⟨k + 1, r + 1, G5, cg5, rfl, by go_num, by omega, by omega, Or.inr (by omega), Lib.hid (by rw [HS.out]; simp [hst.out]), Lib.hid (by rw [HS.out]; exact HO5.out), HB5.out⟩
              case measure => (simp [intOf]) <;> omega
          · have rr : Hid (r = 0) := Lib.hid (by omega)
            have rd : decide ((0 : Int) < (r : Int)) = false := by rw [rr.out]; rfl
            have rd2 : ¬ (0 : Int) < (r : Int) := by omega
            have HS : Hid (cmL c l (k + 1) = V ++ [(⟨x, y - 1⟩ : Rg)]) := Lib.hid (by rw [cmL, hV.out, if_pos HCT, hx.out, hy.out, if_neg (by unfold joinB; rw [hst.out, rr.out]; simp)])
            have rdn : decide (0 < r) = false := by simpa using hr0
            clear hvI HCT
            go_upto_region 12 with (fail)
            go_big_quiet (fail)
            have HQ : Hid (∀ z, Below x2.heap.size x2 z → z.cell? ⟨b, off + k, none⟩ = some (.int .i64 x) ∧ z.cell? ⟨b, off + (k + 1), none⟩ = some (.int .i64 y)) := Lib.hid fun z hz => HCELL.out _ (hc2.trans (hz.mono z2))
            have HRW : Hid (rowsV rgV (V ++ [(⟨x, y - 1⟩ : Rg)]) = rowsV rgV V ++ [.int .i64 x, .int .i64 (y - 1)]) := Lib.hid (by rw [rowsV_app]; rfl)
            have HB2 := Lib.hid hB2
            go_upto_region 14 with (fail)
            refine wp_world (fun X => Below x2.heap.size x2 X) (by (repeat (first | (with_reducible refine Below.drew ?_) | (with_reducible refine below_drewN ?_ _) | (with_reducible refine Below.alloc ?_ (by first | omega | (simp; done) | (simp; omega) | (simp at *; omega)) _) | (with_reducible refine Below.setCell ?_ (by first | omega | (simp; done) | (simp; omega) | (simp at *; omega)) _) | (with_reducible exact Below.refl _ _) | (with_reducible assumption) | (with_reducible refine Below.trans ?_ (Below.mono (by assumption) (by first | omega | (simp; done) | (simp; omega) | (simp at *; omega))))))) (fun x3 hx3 => ?_)
            refine wp_region_held_drew (S := (fun w' => w'.cell? ⟨b, off + k, none⟩ = some (.int .i64 x) ∧ w'.cell? ⟨b, off + (k + 1), none⟩ = some (.int .i64 y))) (by kernel_rfl) (by exact HQ.out _ hx3.drew) (fun hHeld => ?_)
            have hT0 : Below x2.heap.size x2 x3.drew := hx3.drew
            generalize hdr : x3.drew = v0 at *
            clear hdr
            refine tkH 0 ⟨some 70, _, _, _, _, _⟩ ?_ rfl ?_ (by assumption) ?_
            rotate_left
            · (intro w hSw; (try dsimp only at hSw); go_simp; all_goals with_reducible rfl)
            try simp only [Act.put, sA, sB, sC]
            refine tkH 1 ⟨some 71, _, _, _, _, _⟩ ?_ rfl ?_ (by assumption) ?_
            rotate_left
            · (intro w hSw; (try dsimp only at hSw); go_simp; all_goals with_reducible rfl)
            try simp only [Act.put, sA, sB, sC]
            refine tkH 2 ⟨some 72, _, _, _, _, _⟩ ?_ rfl ?_ (by assumption) ?_
            rotate_left
            · (intro w hSw; (try dsimp only at hSw); go_simp; all_goals with_reducible rfl)
            try simp only [Act.put, sA, sB, sC]
            refine tkH 3 ⟨some 73, _, _, _, _, _⟩ ?_ rfl ?_ (by assumption) ?_
            rotate_left
            · (intro w hSw; (try dsimp only at hSw); go_simp; all_goals with_reducible rfl)
            try simp only [Act.put, sA, sB, sC]
            refine tkH 4 ⟨some 74, _, _, _, _, _⟩ ?_ rfl ?_ (by assumption) ?_
            rotate_left
            · (intro w hSw; (try dsimp only at hSw); go_simp; all_goals with_reducible rfl)
            try simp only [Act.put, sA, sB, sC]
            refine tkH 5 ⟨some 75, _, _, _, _, _⟩ ?_ rfl ?_ (by assumption) ?_
            rotate_left
            · (intro w hSw; (try dsimp only at hSw); go_simp; all_goals with_reducible rfl)
            try simp only [Act.put, sA, sB, sC]
            refine tkH 6 ⟨some 76, _, _, _, _, _⟩ ?_ rfl ?_ (by assumption) ?_
            rotate_left
            · (intro w hSw; (try dsimp only at hSw); go_simp; all_goals with_reducible rfl)
            try simp only [Act.put, sA, sB, sC]
            refine tkH 7 ⟨some 77, _, _, _, _, _⟩ ?_ rfl ?_ (by assumption) ?_
            rotate_left
            · (intro w hSw; (try dsimp only at hSw); go_simp; all_goals with_reducible rfl)
            try simp only [Act.put, sA, sB, sC]
            refine tkH 8 ⟨some 78, _, _, _, _, _⟩ ?_ rfl ?_ (by assumption) ?_
            rotate_left
            · (intro w hSw; (try dsimp only at hSw); go_simp; all_goals with_reducible rfl)
            try simp only [Act.put, sA, sB, sC]
            refine tkH 9 ⟨some 79, _, _, _, _, _⟩ ?_ rfl ?_ (by assumption) ?_
            rotate_left
            · (intro w hSw; (try dsimp only at hSw); go_simp; all_goals with_reducible rfl)
            try simp only [Act.put, sA, sB, sC]
            refine tkH 10 ⟨some 80, _, _, _, _, _⟩ ?_ rfl ?_ (by assumption) ?_
            rotate_left
            · (intro w hSw; (try dsimp only at hSw); go_simp; all_goals with_reducible rfl)
            try simp only [Act.put, sA, sB, sC]
            refine tkH 11 ⟨some 81, _, _, _, _, _⟩ ?_ rfl ?_ (by assumption) ?_
            rotate_left
            · (intro w hSw; (try dsimp only at hSw); go_simp; all_goals with_reducible rfl)
            try simp only [Act.put, sA, sB, sC]
            refine wpAnyH_ready (rs := [12]) (by kernel_rfl) (by simp) ?_
            refine AllReadyH.cons rfl (fun K hK => ?_) (AllReadyH.nil)
            go_simp
            go_wp2_with fail
            refine hK.out _ _ (HQ.out _ (hT0.alloc hT0.size _)) (fun hHeld => ?_)
            clear hK K
            try simp only [Act.put, sA, sB, sC]
            obtain ⟨bm, ebm⟩ : ∃ x, v0.heap.size = x := ⟨_, rfl⟩
            generalize hq1 : v0.alloc (.cells #[.int .i64 x, .int .i64 (y - 1)] 26) = v1
            have hb1 : Below v0.heap.size v0 v1 := by rw [← hq1]; exact (Below.refl _ _).alloc (Nat.le_refl _) _
            have HM : Hid (v1.cell? ⟨bm, 0, none⟩ = some (.int .i64 x) ∧ v1.cell? ⟨bm, 1, none⟩ = some (.int .i64 (y - 1))) := Lib.hid (by rw [← hq1, ← ebm]; exact ⟨by simp [go_sem], by simp [go_sem]⟩)
            have hT1 : Below x2.heap.size x2 v1 := hT0.trans (hb1.mono hT0.size)
            have HE1 := Lib.hid (own_below HO2.out hT1 (Nat.le_refl _))
            have hW1 : Below wa.heap.size wa v1 := HB2.out.trans (hT1.mono HB2.out.size)
            rw [ebm]
            clear hq1 hb1 hT0
            refine wpAnyH_ready (rs := [13]) (by kernel_rfl) (by simp) ?_
            refine AllReadyH.cons rfl (fun K hK => ?_) (AllReadyH.nil)
            rw [if_pos (by kernel_rfl)]
            refine oper_app_any _ _ 32 rfl wa.heap.size 26 j0 (.agg #[.int .i64 0, .int .i64 0]) 2 16 Tryz.underlying32 JI.out JZ0.out JZ1.out JZ2.out rfl (by decide) _ r (rowsV rgV V) rfl HE1.out ⟨bm, 0, none⟩ 1 1 [.int .i64 x, .int .i64 (y - 1)] rfl rfl ?a0 ?a1 ?a2 ?a3 hW1.size ?_
            case a0 =>
              intro j v hj
              match j, hj with
              | 0, hj => simp at hj; subst hj; exact HM.out.1
              | 1, hj => simp at hj; subst hj; exact HM.out.2
            case a1 => intro v hv; simp at hv; rcases hv with rfl | rfl <;> rfl
            case a2 => unfold maxLen; omega
            case a3 => omega
            intro v' x5 hown hgrow hblk
            have hB5 : Below wa.heap.size wa x5 := hW1.grown hgrow hW1.size (fun r hr => (own_block HE1.out r hr).1)
            have hown2 : x5.ownsRow wa.heap.size 26 2 v' (V ++ [(⟨x, y - 1⟩ : Rg)]).length (rowsV rgV (V ++ [(⟨x, y - 1⟩ : Rg)])) := by rw [HRW.out, List.length_append, hst.out]; exact hown
            obtain ⟨G5, cg5, hv5, _, _, _, _, _⟩ := SlRows_own (f := rgV) (n := 2) (fun _ => rfl) hown2
            rw [List.length_append, hst.out] at hv5
            simp only [List.length_cons, List.length_nil, Nat.zero_add] at hv5
            subst hv5
            have HO5 : Hid (x5.ownsRow wa.heap.size 26 2 (.slice G5 (r + 1) cg5) (r + 1) (rowsV rgV (V ++ [(⟨x, y - 1⟩ : Rg)]))) := Lib.hid (by rw [List.length_append, hst.out] at hown2; exact hown2)
            have HB5 := Lib.hid hB5
            have hsx : x5.cell? ⟨b, off + k, none⟩ = some (.int .i64 x) ∧ x5.cell? ⟨b, off + (k + 1), none⟩ = some (.int .i64 y) := HWA.out _ hB5
            clear hown hown2 hblk hgrow hB5
            refine hK.out _ _ hsx (fun hHeld => ?_)
            clear hK K
            try simp only [Act.put, sA, sB, sC]
            refine tkH 14 ⟨some 8, _, _, _, _, _⟩ ?_ rfl ?_ (by assumption) ?_
            rotate_left
            · (intro w hSw; (try dsimp only at hSw); go_simp; all_goals with_reducible rfl)
            try simp only [Act.put, sA, sB, sC]
            refine wpAnyH_done (by kernel_rfl) ?_ _
            go_wp2
            go_roundw
            case rel => exact ⟨k + 1, r + 1, G5, cg5, rfl, by go_num, by omega, by omega, Or.inr (by omega), Lib.hid (by rw [HS.out]; simp [hst.out]), Lib.hid (by rw [HS.out]; exact HO5.out), HB5.out⟩
            case measure => (simp [intOf]) <;> omega
    · have HK : Hid (cmL c l k = cmL c l (q - 1)) := Lib.hid (by
        rcases hkq with h | h
        · have : q - 1 = 0 := by omega
          rw [h, this]
        · rw [show q - 1 = k by omega])
      have kn : ¬ (k : Int) + 1 < (q : Int) := by omega
      have hown2 : wr.ownsRow wa.heap.size 26 2 (.slice G r cg) (cmL c l k).length (rowsV rgV (cmL c l k)) := by rw [hst.out]; exact HO.out
      obtain ⟨G5, cg5, hv5, hS5, _, hn5, _, _⟩ := SlRows_own (f := rgV) (n := 2) (fun _ => rfl) hown2
      rw [hst.out] at hv5
      have e1 : G = G5 := by injection hv5
      have e3 : cg = cg5 := by injection hv5
      subst e1 e3
      have HS5 := Lib.hid hS5
      have HN5 := Lib.hid hn5
      have hBz : Below w.heap.size w wr := HBW.out.trans (hB.mono HBW.out.size)
      clear hown2 hS5 hn5 hv5 hkq
      go_wp2
      go_ret
      exact ⟨G, cg, by rw [← HK.out, hst.out]; rfl, by rw [← HK.out]; exact HS5.out, HN5.out, hBz⟩
end Go.Proofs.YtojaompfffpofaaGreat
