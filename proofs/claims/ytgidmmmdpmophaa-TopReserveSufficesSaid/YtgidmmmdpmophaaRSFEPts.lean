import Derived.Test.YtgidmmmdpmophaaRSFEPlan
import Derived.Deep.CutRange
import Derived.Deep.CutBlock
import Derived.Outline
namespace Go.Proofs.Ytgidmmmdpmophaa
open Go.ChangeShapes Go.WideShapes Go.ChangeAt Go.RowKit
set_option linter.unusedVariables false
set_option linter.unusedSimpArgs false
attribute [local go_sem ↓] Go.wp_at_zero Go.wp_at_succ
/-- The seconds of the first legs; the points of a plan. -/
def secT (D : List Le) (k : Nat) : Int := secs (D.take k)
def ptK (D : List Le) (k : Nat) : Pt := ⟨secT D k, if k = 0 then 0 else (D.getD (k - 1) default).d⟩
def ptL (D : List Le) (n : Nat) : List Pt := (List.range n).map (ptK D)
theorem ptL_len (D : List Le) (n : Nat) : (ptL D n).length = n := by simp [ptL]
theorem ptL_succ (D : List Le) (n : Nat) : ptL D (n + 1) = ptL D n ++ [ptK D n] := by simp [ptL, List.range_succ]
theorem ptL_at (D : List Le) {n k : Nat} (h : k < (ptL D n).length) : (ptL D n)[k] = ptK D k := by simp [ptL]
theorem secs_app : ∀ (L M : List Le), secs (L ++ M) = secs L + secs M
  | [], M => by simp [secs]
  | x :: l, M => by simp only [List.cons_append, secs, secs_app l M]; omega
theorem secT_succ {D : List Le} {k : Nat} (h : k < D.length) : secT D (k + 1) = secT D k + D[k].s := by
  unfold secT
  rw [List.take_succ_eq_append_getElem h, secs_app]
  simp [secs]
theorem getD_leE {D : List Le} {k : Nat} (h : k < D.length) : D.getD k default = D[k] := by
  rw [List.getD_eq_getElem?_getD, List.getElem?_eq_getElem h]; rfl
theorem ptK_succ {D : List Le} {k : Nat} (h : k < D.length) : ptK D (k + 1) = ⟨secT D k + D[k].s, D[k].d⟩ := by
  unfold ptK
  rw [secT_succ h, if_neg (by omega), Nat.add_sub_cancel, getD_leE h]
/-- Of right legs, each is right, and they end in time. -/
theorem legsGo_ok : ∀ {D : List Le} {ng e : Int} {j N : Nat}, legsGo D ng e j = (N, 0) → 0 ≤ e → (∀ x ∈ D, 1 ≤ x.s ∧ x.s ≤ 1000000 ∧ 0 ≤ x.d ∧ x.d ≤ 30000 ∧ 0 ≤ x.g ∧ x.g ≤ ng - 1) ∧ (∀ k, 0 ≤ secs (D.take k)) ∧ (∀ k, e + secs (D.take k) ≤ max e 1000000)
  | [], ng, e, j, N, h, h0 => ⟨fun x hx => absurd hx (by simp), fun k => by simp [secs], fun k => by simp [secs]; omega⟩
  | x :: l, ng, e, j, N, h, h0 => by
    unfold legsGo at h
    by_cases h1 : (inB x.s 1 1000000 && inB x.d 0 30000) = false
    · rw [if_pos h1] at h; exact absurd (Prod.mk.inj h).2 (by decide)
    rw [if_neg h1] at h
    by_cases h2 : inB x.g 0 (ng - 1) = false
    · rw [if_pos h2] at h; exact absurd (Prod.mk.inj h).2 (by decide)
    rw [if_neg h2] at h
    by_cases h3 : 1000000 < e + x.s
    · rw [if_pos h3] at h; exact absurd (Prod.mk.inj h).2 (by decide)
    rw [if_neg h3] at h
    have q1 : inB x.s 1 1000000 = true ∧ inB x.d 0 30000 = true := by simpa using h1
    have a1 := inB_iff.1 q1.1
    have a2 := inB_iff.1 q1.2
    have a3 := inB_iff.1 (show inB x.g 0 (ng - 1) = true by simpa using h2)
    obtain ⟨b1, b2, b3⟩ := legsGo_ok h (by omega)
    refine ⟨fun y hy => ?_, fun k => ?_, fun k => ?_⟩
    · rcases List.mem_cons.1 hy with rfl | hy
      · exact ⟨a1.1, a1.2, a2.1, a2.2, a3.1, a3.2⟩
      · exact b1 y hy
    · cases k with
      | zero => simp [secs]
      | succ k => have := b2 k; simp only [List.take_succ_cons, secs]; omega
    · cases k with
      | zero => simp [secs]; omega
      | succ k => have := b3 k; have := b2 k; simp only [List.take_succ_cons, secs]; omega
/-- A right plan. -/
structure PlnOk (nm : ByteArray) (s : Int) (G : List Ga) (D : List Le) : Prop where
  nm : nameB nm = true
  su : 400 ≤ s ∧ s ≤ 1100
  g0 : 0 < G.length
  g8 : G.length ≤ 8
  ga : ∀ g ∈ G, gasE g.o g.h = 0
  d6 : D.length ≤ 60
  le : ∀ x ∈ D, 1 ≤ x.s ∧ x.s ≤ 1000000 ∧ 0 ≤ x.d ∧ x.d ≤ 30000 ∧ 0 ≤ x.g ∧ x.g ≤ (G.length : Int) - 1
  sec : ∀ k, 0 ≤ secT D k ∧ secT D k ≤ 1000000
theorem pln_ok {nm : ByteArray} {s : Int} {G : List Ga} {D : List Le} {N : Nat} (h : plnP nm s G D = (N, 0)) : PlnOk nm s G D := by
  unfold plnP at h
  by_cases h1 : nameB nm = false
  · rw [if_pos h1] at h; exact absurd (Prod.mk.inj h).2 (by decide)
  rw [if_neg h1] at h
  by_cases h2 : inB s 400 1100 = false
  · rw [if_pos h2] at h; exact absurd (Prod.mk.inj h).2 (by decide)
  rw [if_neg h2] at h
  by_cases h3 : gasesE G ≠ 0
  · rw [if_pos h3] at h; exact absurd (Prod.mk.inj h).2 h3
  rw [if_neg h3] at h
  have h3' : gasesE G = 0 := by simpa using h3
  unfold legsE at h
  by_cases h4 : 60 < D.length
  · rw [if_pos h4] at h; exact absurd (Prod.mk.inj h).2 (by decide)
  rw [if_neg h4] at h
  obtain ⟨b1, b2, b3⟩ := legsGo_ok h (by omega)
  obtain ⟨g0, g8, gg⟩ := gasesE_n h3'
  refine ⟨by simpa using h1, inB_iff.1 (by simpa using h2), g0, g8, gg, by omega, b1, fun k => ⟨b2 k, ?_⟩⟩
  have := b3 k
  unfold secT
  omega
theorem infoPt : (Try.prog.info? 90).map (fun i => (i.zero, i.size, i.bytes)) = some (some (.agg #[.int .i64 0, .int .i64 0]), 2, 16) := by kernel_rfl
theorem wp_worldP {P : Program} {c : Code} {Q : Exit → Act → World → Prop} {a : Act} {w : World} (R : World → Prop) (h : R w) (k : ∀ X, R X → Code.wp P c Q a X) : Code.wp P c Q a w := k w h
theorem endOf_is (P : List Pt) (A : Option Addr) (n cap : Nat) (E : Int) (w : World) (hn : Hid (n + 1 = P.length)) (hl : n ≤ 1000000) (hP : SlRows ptV 2 w A P) (hE : Hid ((P.getD n default).s = E)) :
    Calls Try.prog 56 #[.slice A (n + 1) cap] w fun e w' => e = .returned (.int .i64 E) ∧ w = w' := by
  have hk : n < P.length := by have := hn.out; omega
  obtain ⟨b, o, rfl, _, hR⟩ := hP.at' hk
  have c0 := (pt_at hR hk).1
  have he : P[n].s = E := by rw [← hE.out, List.getD_eq_getElem?_getD, List.getElem?_eq_getElem hk]; rfl
  rw [he] at c0
  have hw : IntKind.i64.wrap (((n + 1 : Nat) : Int) - 1) = (n : Int) := by rw [IntWalk.i64_in _ (by omega)]; omega
  have hw1 : IntKind.i64.wrap ((n : Int) + 1 - 1) = (n : Int) := by rw [IntWalk.i64_in _ (by omega)]; omega
  have q0 : ¬ (n : Int) < 0 := by omega
  have q1 : (n : Int) < ((n + 1 : Nat) : Int) := by omega
  have q2 : (n : Int) < (n : Int) + 1 := by omega
  clear hR
  go_enter Try.func56, Try.ntmps56
  go_wp2
  go_ret
  exact ⟨rfl, rfl⟩
theorem endOf_b (P : List Pt) (A : Option Addr) (n cap : Nat) (E : Int) (w : World) (hn : Hid (n + 1 = P.length)) (hl : n ≤ 1000000) (hP : SlRows ptV 2 w A P) (hE : Hid ((P.getD n default).s = E)) :
    Calls Try.prog 56 #[.slice A (n + 1) cap] w fun e w' => e = .returned (.int .i64 E) ∧ Below w.heap.size w w' := (endOf_is P A n cap E w hn hl hP hE).mono fun e w' h => ⟨h.1, by rw [← h.2]; exact Below.refl _ _⟩
def PtsPost (D : List Le) (n : Nat) (E : Int) (w : World) (e : Ending) (w' : World) : Prop :=
  (¬ E = 0 ∧ e = .returned (.tuple #[.slice none 0 0, .int .i64 E]) ∧ Below w.heap.size w w') ∨ (E = 0 ∧ ∃ P pc, e = .returned (.tuple #[.slice P (n + 1) pc, .int .i64 0]) ∧ SlRows ptV 2 w' P (ptL D (n + 1)) ∧ (∀ ad, P = some ad → w.heap.size ≤ ad.block) ∧ Below w.heap.size w w')
set_option maxRecDepth 100000 in
set_option maxHeartbeats 4000000 in
theorem PointsOf_any (nm : ByteArray) (s : Int) (G : List Ga) (D : List Le) (A B : Option Addr) (gn gc dn dc N : Nat) (E : Int) (w : World) (hz : nm.size ≤ 9223372036854775807) (hgn : Hid (gn = G.length)) (hgl : gn ≤ 9223372036854775807) (hdn : Hid (dn = D.length)) (hdl : dn ≤ 9223372036854775807) (hG : Hid (SlRows gaV 2 w A G)) (hD : Hid (SlRows leV 3 w B D)) (hE : Hid (plnP nm s G D = (N, E))) :
    Calls Try.prog 50 #[.agg #[.string nm, .int .i64 s, .slice A gn gc, .slice B dn dc]] w (PtsPost D dn E w) := by
  obtain ⟨i0, hi, hz0', hz1', hz2'⟩ := info_partsG infoPt
  have HI := Lib.hid hi
  have HZ0 := Lib.hid hz0'
  have HZ1 := Lib.hid hz1'
  have HZ2 := Lib.hid hz2'
  clear hi hz0' hz1' hz2'
  go_enter Try.func50, Try.ntmps50
  go_wp2_with fail
  refine (pCheckPlan_any nm s G D A B gn gc dn dc N E _ hz hgn hgl hdn hdl (Lib.hid (hG.out.below (by (repeat (first | (with_reducible refine Below.drew ?_) | (with_reducible refine below_drewN ?_ _) | (with_reducible refine Below.alloc ?_ (by first | omega | (simp; done) | (simp; omega) | (simp at *; omega)) _) | (with_reducible refine Below.setCell ?_ (by first | omega | (simp; done) | (simp; omega) | (simp at *; omega)) _) | (with_reducible exact Below.refl _ _) | (with_reducible assumption) | (with_reducible refine Below.trans ?_ (Below.mono (by assumption) (by first | omega | (simp; done) | (simp; omega) | (simp at *; omega))))))))) (Lib.hid (hD.out.below (by (repeat (first | (with_reducible refine Below.drew ?_) | (with_reducible refine below_drewN ?_ _) | (with_reducible refine Below.alloc ?_ (by first | omega | (simp; done) | (simp; omega) | (simp at *; omega)) _) | (with_reducible refine Below.setCell ?_ (by first | omega | (simp; done) | (simp; omega) | (simp at *; omega)) _) | (with_reducible exact Below.refl _ _) | (with_reducible assumption) | (with_reducible refine Below.trans ?_ (Below.mono (by assumption) (by first | omega | (simp; done) | (simp; omega) | (simp at *; omega))))))))) hE).mono ?_
  rintro e x1 ⟨rfl, hb1⟩
  have z1 := hb1.size
  try simp at z1
  have hB1 : Below w.heap.size w x1 := (by (repeat (first | (with_reducible refine Below.drew ?_) | (with_reducible refine below_drewN ?_ _) | (with_reducible refine Below.alloc ?_ (by first | omega | (simp; done) | (simp; omega) | (simp at *; omega)) _) | (with_reducible refine Below.setCell ?_ (by first | omega | (simp; done) | (simp; omega) | (simp at *; omega)) _) | (with_reducible exact Below.refl _ _) | (with_reducible assumption) | (with_reducible refine Below.trans ?_ (Below.mono (by assumption) (by first | omega | (simp; done) | (simp; omega) | (simp at *; omega)))))))
  by_cases hE0 : ¬ E = 0
  · have hE1 : (E != 0) = true := by simpa using hE0
    go_wp2
    go_ret2
    exact Or.inl ⟨hE0, rfl, hB1⟩
  obtain rfl : E = 0 := by omega
  have hok := pln_ok hE.out
  have d60 : dn ≤ 60 := by have := hok.d6; have := hdn.out; omega
  obtain ⟨c3⟩ : PLift (x1.cell? ⟨w.heap.size, 3, none⟩ = some (.slice B dn dc)) := ⟨by rw [(bcell hb1).1 _ _ (by simp)]; simp [go_sem]⟩
  have o1 : w.heap.size < x1.heap.size := by omega
  have HSEC := Lib.hid hok.sec
  have HLE := Lib.hid hok.le
  clear hb1 hok hE hE0
  have hrow0 : Hid (rowsV ptV (ptL D (0 + 1)) = [.int .i64 0, .int .i64 0]) := Lib.hid (by simp [ptL, ptK, rowsV, ptV, secT, secs])
  have HO := Lib.hid (own_madeG (base := x1.heap.size) x1 [.int .i64 0, .int .i64 0] 1 2 90 (Nat.le_refl _) rfl (by decide))
  go_wp2
  go_loopw [6, 22] (fun v i wr => ∃ k : Nat, k ≤ dn ∧ i = .int .i64 k ∧ Hid (wr.ownsRow x1.heap.size 90 2 v (k + 1) (rowsV ptV (ptL D (k + 1)))) ∧ Below x1.heap.size x1 wr) (fun _ i _ => dn - (intOf i).toNat)
  case atStart => exact ⟨0, by omega, rfl, Lib.hid (by rw [hrow0.out]; exact HO.out), (by (repeat (first | (with_reducible refine Below.drew ?_) | (with_reducible refine below_drewN ?_ _) | (with_reducible refine Below.alloc ?_ (by first | omega | (simp; done) | (simp; omega) | (simp at *; omega)) _) | (with_reducible refine Below.setCell ?_ (by first | omega | (simp; done) | (simp; omega) | (simp at *; omega)) _) | (with_reducible exact Below.refl _ _) | (with_reducible assumption) | (with_reducible refine Below.trans ?_ (Below.mono (by assumption) (by first | omega | (simp; done) | (simp; omega) | (simp at *; omega)))))))⟩
  case round =>
    clear HO c3 o1 z1
    obtain ⟨k, hk, rfl, hown, hB⟩ := hrel
    have zb := hB.size
    obtain ⟨A6, c6, hv, hS6, hge6, _, _, _⟩ := SlRows_own (f := ptV) (n := 2) (L := ptL D (k + 1)) (fun _ => rfl) (by rw [ptL_len]; exact hown.out)
    rw [ptL_len] at hv
    subst hv
    by_cases hkd : k < dn
    · have kn : (k : Int) < (dn : Int) := by omega
      have hkD : k < D.length := by have := hdn.out; omega
      obtain ⟨lb, lo, rfl, hlt, hR⟩ := (hD.out.below (hB1.trans (hB.mono hB1.size))).at' hkD
      obtain ⟨f0, f1, f2⟩ := le_at hR hkD
      obtain ⟨s9, hs9⟩ : ∃ z, Hid (D[k].s = z) := ⟨_, Lib.hid rfl⟩
      obtain ⟨d9, hd9⟩ : ∃ z, Hid (D[k].d = z) := ⟨_, Lib.hid rfl⟩
      rw [hs9.out] at f0
      rw [hd9.out] at f1
      obtain ⟨e9, he9⟩ : ∃ z, Hid (((ptL D (k + 1)).getD k default).s = z) := ⟨_, Lib.hid rfl⟩
      have he9' : secT D k = e9 := by
        rw [← he9.out, List.getD_eq_getElem?_getD, List.getElem?_eq_getElem (by rw [ptL_len]; omega)]
        show _ = ((ptL D (k + 1))[k]'_).s
        rw [ptL_at]; rfl
      obtain ⟨t9, ht9'⟩ : ∃ z, Hid (e9 + s9 = z) := ⟨_, Lib.hid rfl⟩
      have ht9 : Hid (secT D k + s9 = t9) := Lib.hid (by rw [he9']; exact ht9'.out)
      have e0 : 0 ≤ e9 ∧ e9 ≤ 1000000 := by have := HSEC.out k; rw [he9'] at this; exact this
      have s0 : 1 ≤ s9 ∧ s9 ≤ 1000000 := by have := HLE.out _ (List.getElem_mem hkD); rw [← hs9.out]; exact ⟨this.1, this.2.1⟩
      have hw9 : IntKind.i64.wrap (e9 + s9) = t9 := by rw [IntWalk.i64_in _ (by omega)]; exact ht9'.out
      have HNR0 := Lib.hid (own_blockG hown.out)
      clear he9' hR
      go_upto_region 8 with (fail)
      refine wp_worldP (fun u => (u.cell? ⟨wr.heap.size, 0, none⟩ = some (.int .i64 s9) ∧ u.cell? ⟨wr.heap.size, 1, none⟩ = some (.int .i64 d9)) ∧ wr.heap.size < u.heap.size ∧ u.ownsRow x1.heap.size 90 2 (.slice A6 (k + 1) c6) (k + 1) (rowsV ptV (ptL D (k + 1))) ∧ Below wr.heap.size wr u) ⟨⟨by simp [go_sem], by simp [go_sem]⟩, by simp, own_belowG hown.out (show Below wr.heap.size wr _ from (by (repeat (first | (with_reducible refine Below.drew ?_) | (with_reducible refine below_drewN ?_ _) | (with_reducible refine Below.alloc ?_ (by first | omega | (simp; done) | (simp; omega) | (simp at *; omega)) _) | (with_reducible refine Below.setCell ?_ (by first | omega | (simp; done) | (simp; omega) | (simp at *; omega)) _) | (with_reducible exact Below.refl _ _) | (with_reducible assumption) | (with_reducible refine Below.trans ?_ (Below.mono (by assumption) (by first | omega | (simp; done) | (simp; omega) | (simp at *; omega)))))))) (Nat.le_refl _), (by (repeat (first | (with_reducible refine Below.drew ?_) | (with_reducible refine below_drewN ?_ _) | (with_reducible refine Below.alloc ?_ (by first | omega | (simp; done) | (simp; omega) | (simp at *; omega)) _) | (with_reducible refine Below.setCell ?_ (by first | omega | (simp; done) | (simp; omega) | (simp at *; omega)) _) | (with_reducible exact Below.refl _ _) | (with_reducible assumption) | (with_reducible refine Below.trans ?_ (Below.mono (by assumption) (by first | omega | (simp; done) | (simp; omega) | (simp at *; omega)))))))⟩ (fun u hu => ?_)
      obtain ⟨hc, hlu, how, hBw⟩ := hu
      have HS : Hid (∀ y, Below u.heap.size u y → y.cell? ⟨wr.heap.size, 0, none⟩ = some (.int .i64 s9) ∧ y.cell? ⟨wr.heap.size, 1, none⟩ = some (.int .i64 d9)) := Lib.hid fun y hy => ⟨(hy.cell (p := ⟨wr.heap.size, 0, none⟩) hlu).trans hc.1, (hy.cell (p := ⟨wr.heap.size, 1, none⟩) hlu).trans hc.2⟩
      have HOW : Hid (∀ y, Below u.heap.size u y → y.ownsRow x1.heap.size 90 2 (.slice A6 (k + 1) c6) (k + 1) (rowsV ptV (ptL D (k + 1)))) := Lib.hid fun y hy => own_belowG how hy (Nat.le_refl _)
      have HR6 : Hid (∀ y, Below u.heap.size u y → SlRows ptV 2 y A6 (ptL D (k + 1))) := Lib.hid fun y hy => hS6.below (hBw.trans (hy.mono hBw.size))
      have HNR : Hid (∀ r, (Value.slice A6 (k + 1) c6).ownBlock = some r → r < wr.heap.size) := Lib.hid fun r hr => (HNR0.out r hr).2
      have hBu : Below x1.heap.size x1 u := hB.trans (hBw.mono hB.size)
      clear hc how hBw hS6 hown HNR0 f0 f1 f2
      refine wp_region_held_drew (S := (fun w' => w'.cell? ⟨wr.heap.size, 0, none⟩ = some (.int .i64 s9) ∧ w'.cell? ⟨wr.heap.size, 1, none⟩ = some (.int .i64 d9))) (by kernel_rfl) (HS.out _ (Below.refl _ _).drew) (fun hHeld => ?_)
      have hT0 : Below u.heap.size u u.drew := (Below.refl _ _).drew
      generalize hdr : u.drew = v0 at *
      clear hdr
      refine tkH 0 ⟨some 26, _, _, _, _, _⟩ ?_ rfl ?_ (by assumption) ?_
      rotate_left
      · (intro w hSw; (try dsimp only at hSw); go_simp; all_goals with_reducible rfl)
      try simp only [Act.put, sA, sB, sC]
      refine tkH 1 ⟨some 27, _, _, _, _, _⟩ ?_ rfl ?_ (by assumption) ?_
      rotate_left
      · (intro w hSw; (try dsimp only at hSw); go_simp; all_goals with_reducible rfl)
      try simp only [Act.put, sA, sB, sC]
      refine tkH 3 ⟨some 29, _, _, _, _, _⟩ ?_ rfl ?_ (by assumption) ?_
      rotate_left
      · (intro w hSw; (try dsimp only at hSw); go_simp; all_goals with_reducible rfl)
      try simp only [Act.put, sA, sB, sC]
      refine tkH 4 ⟨some 30, _, _, _, _, _⟩ ?_ rfl ?_ (by assumption) ?_
      rotate_left
      · (intro w hSw; (try dsimp only at hSw); go_simp; all_goals with_reducible rfl)
      try simp only [Act.put, sA, sB, sC]
      refine tkH 6 ⟨some 32, _, _, _, _, _⟩ ?_ rfl ?_ (by assumption) ?_
      rotate_left
      · (intro w hSw; (try dsimp only at hSw); go_simp; all_goals with_reducible rfl)
      try simp only [Act.put, sA, sB, sC]
      refine tkH 7 ⟨some 33, _, _, _, _, _⟩ ?_ rfl ?_ (by assumption) ?_
      rotate_left
      · (intro w hSw; (try dsimp only at hSw); go_simp; all_goals with_reducible rfl)
      try simp only [Act.put, sA, sB, sC]
      refine wpAnyH_ready (rs := [2]) (by kernel_rfl) (by simp) ?_
      refine AllReadyH.cons rfl (fun K hK => ?_) (AllReadyH.nil)
      go_simp
      refine (endOf_b (ptL D (k + 1)) A6 k c6 e9 _ (Lib.hid (ptL_len D (k + 1)).symm) (by omega) (HR6.out _ hT0) he9).mono ?_
      rintro e v1 ⟨rfl, hbv0⟩
      have hT1 : Below u.heap.size u v1 := hT0.trans (hbv0.mono hT0.size)
      clear hbv0
      go_wp2_with fail
      refine hK.out _ _ (HS.out _ hT1) (fun hHeld => ?_)
      clear hK K
      try simp only [Act.put, sA, sB, sC]
      refine tkH 5 ⟨some 31, _, _, _, _, _⟩ ?_ rfl ?_ (by assumption) ?_
      rotate_left
      · (intro w hSw; (try dsimp only at hSw); go_simp; all_goals with_reducible rfl)
      try simp only [Act.put, sA, sB, sC]
      refine tkH 8 ⟨some 34, _, _, _, _, _⟩ ?_ rfl ?_ (by assumption) ?_
      rotate_left
      · (intro w hSw; (try dsimp only at hSw); go_simp; all_goals with_reducible rfl)
      try simp only [Act.put, sA, sB, sC]
      refine wpAnyH_ready (rs := [9]) (by kernel_rfl) (by simp) ?_
      refine AllReadyH.cons rfl (fun K hK => ?_) (AllReadyH.nil)
      go_simp
      go_wp2_with fail
      refine hK.out _ _ (HS.out _ (hT1.alloc hT1.size _)) (fun hHeld => ?_)
      clear hK K
      try simp only [Act.put, sA, sB, sC]
      have HNb9 := Lib.hid (BlkF.made (B := u.heap.size) v1 [.int .i64 t9, .int .i64 d9] 90 hT1.size)
      have hbv1 : Below v1.heap.size v1 (v1.alloc (.cells #[.int .i64 t9, .int .i64 d9] 90)) := (Below.refl _ _).alloc (Nat.le_refl _) _
      have hnb9 : u.heap.size ≤ v1.heap.size := hT1.size
      have exb9 : ∃ x, v1.heap.size = x := ⟨_, rfl⟩
      generalize hq1 : v1.alloc (.cells #[.int .i64 t9, .int .i64 d9] 90) = v2 at *
      have hT2 : Below u.heap.size u v2 := hT1.trans (hbv1.mono hT1.size)
      obtain ⟨b9, eb9⟩ := exb9
      rw [eb9] at HNb9 hnb9 ⊢
      clear hbv1 hq1
      refine wpAnyH_ready (rs := [10]) (by kernel_rfl) (by simp) ?_
      refine AllReadyH.cons rfl (fun K hK => ?_) (AllReadyH.nil)
      rw [if_pos (by kernel_rfl)]
      refine oper_append_slG _ _ 65 rfl x1.heap.size 90 i0 (.agg #[.int .i64 0, .int .i64 0]) 2 16 Try.underlying65 HI.out HZ0.out HZ1.out HZ2.out rfl (by decide) (.slice A6 (k + 1) c6) (k + 1) (rowsV ptV (ptL D (k + 1))) rfl (HOW.out _ hT2) (some ⟨b9, 0, none⟩) 1 1 [.int .i64 t9, .int .i64 d9] rfl (fun h => by cases h) rfl (fun ad had j v hj => by cases had; rw [addNR, Nat.zero_add]; exact HNb9.out.at' j v hj) (by intro v hv; simp at hv; rcases hv with rfl | rfl <;> rfl) ?d1 ?d2 (hBu.trans (hT2.mono hBu.size)).size ?_
      case d1 => unfold maxLen; omega
      case d2 => omega
      intro rv v3 hown hgrow hblk
      have hX : Below x1.heap.size x1 v3 := (hBu.trans (hT2.mono hBu.size)).grown hgrow (hBu.trans (hT2.mono hBu.size)).size (fun r hr => (own_blockG (HOW.out _ hT2) r hr).1)
      have hlb : v3.heap[wr.heap.size]? = v2.heap[wr.heap.size]? := hgrow.block _ (by have := hT2.size; omega) (fun h => by have := HNR.out _ h.symm; omega)
      have hS9 : v3.cell? ⟨wr.heap.size, 0, none⟩ = some (.int .i64 s9) ∧ v3.cell? ⟨wr.heap.size, 1, none⟩ = some (.int .i64 d9) := ⟨(World.cell?_of_block (a := ⟨wr.heap.size, 0, none⟩) hlb).trans (HS.out _ hT2).1, (World.cell?_of_block (a := ⟨wr.heap.size, 1, none⟩) hlb).trans (HS.out _ hT2).2⟩
      refine hK.out _ _ hS9 (fun hHeld => ?_)
      clear hK K hS9 hlb
      try simp only [Act.put, sA, sB, sC]
      refine tkH 11 ⟨some 6, _, _, _, _, _⟩ ?_ rfl ?_ (by assumption) ?_
      rotate_left
      · (intro w hSw; (try dsimp only at hSw); go_simp; all_goals with_reducible rfl)
      try simp only [Act.put, sA, sB, sC]
      refine wpAnyH_done (by kernel_rfl) ?_ _
      have HOWN := Lib.hid hown
      clear hown hgrow hblk HNb9 hHeld HOW HNR HS
      go_wp2
      go_roundw
      case rel => exact ⟨k + 1, by omega, by go_num, Lib.hid (by rw [ptL_succ D (k + 1), rowsV_appG, ptK_succ hkD, hs9.out, hd9.out, ht9.out]; exact HOWN.out), hX⟩
      case measure => simp [intOf]; omega
    · have kn : ¬ (k : Int) < (dn : Int) := by omega
      obtain rfl : k = dn := by omega
      have HS6 := Lib.hid hS6
      have hBz := Lib.hid (hB1.trans (hB.mono hB1.size))
      clear hS6 hown
      go_wp2
      go_ret2
      exact Or.inr ⟨rfl, A6, c6, rfl, HS6.out, (fun ad h => by have := hge6 ad h; have := hB1.size; omega), hBz.out⟩
end Go.Proofs.Ytgidmmmdpmophaa
