import Derived.Test.YtgidmmmdpmophaaRSFLawRt
import Derived.Outline
namespace Go.Proofs.Ytgidmmmdpmophaa
open Go.ChangeShapes Go.WideShapes Go.ChangeAt Go.RowKit
set_option linter.unusedVariables false
set_option linter.unusedSimpArgs false
attribute [local go_sem ↓] Go.wp_at_zero Go.wp_at_succ
theorem legsGo_of : ∀ {D : List Le} {ng e : Int} {j : Nat}, (∀ x ∈ D, 1 ≤ x.s ∧ x.s ≤ 1000000 ∧ 0 ≤ x.d ∧ x.d ≤ 30000 ∧ 0 ≤ x.g ∧ x.g ≤ ng - 1) → (∀ k, e + secs (D.take k) ≤ 1000000) → legsGo D ng e j = (0, 0)
  | [], ng, e, j, _, _ => rfl
  | x :: l, ng, e, j, h, hs => by
    obtain ⟨a1, a2, a3, a4, a5, a6⟩ := h x (by simp)
    have h1 := hs 1
    simp only [List.take_succ_cons, List.take_zero, secs] at h1
    unfold legsGo
    rw [if_neg (by rw [inB_iff.2 ⟨a1, a2⟩, inB_iff.2 ⟨a3, a4⟩]; simp), if_neg (by rw [inB_iff.2 ⟨a5, a6⟩]; simp), if_neg (by omega)]
    refine legsGo_of (fun y hy => h y (List.mem_cons_of_mem _ hy)) fun k => ?_
    have h2 := hs (k + 1)
    simp only [List.take_succ_cons, secs] at h2
    omega
theorem pln_of_ok {nm : ByteArray} {s : Int} {G : List Ga} {D DB : List Le} {N : Nat} (h0 : plnP nm s G D = (N, 0)) (h : PlnOk nm s G DB) : plnP nm s G DB = (0, 0) := by
  have hg : gasesE G = 0 := by
    have h9 := pln_ok h0
    unfold plnP at h0
    rw [if_neg (by rw [h9.nm]; simp), if_neg (by rw [inB_iff.2 h9.su]; simp)] at h0
    by_cases h3 : gasesE G = 0
    · exact h3
    · rw [if_pos h3] at h0
      exact absurd (Prod.mk.inj h0).2 h3
  unfold plnP
  rw [if_neg (by rw [h.nm]; simp), if_neg (by rw [inB_iff.2 h.su]; simp), if_neg (by rw [hg]; simp)]
  unfold legsE
  rw [if_neg (by have := h.d6; omega)]
  refine legsGo_of h.le fun k => ?_
  have := h.sec k
  unfold secT at this
  omega
theorem conT_bd8 {nm : ByteArray} {s : Int} {G : List Ga} {D : List Le} {b t : Int} {n : Nat} (h : PlnOk nm s G D) (hS : secT D D.length ≤ 20000) (b0 : 1 ≤ b) (b1 : b ≤ 100000) (t0 : 0 ≤ t) (h8 : D.length ≤ 8) (g : Nat) : 0 ≤ (conT b t (legK s G D) n (List.range D.length)).getD g 0 ∧ (conT b t (legK s G D) n (List.range D.length)).getD g 0 ≤ 1000000000000000 := by
  rw [← conT_range (Nat.le_refl _)]
  have h1 := (conT_snocL b t (legC s G D) n D.length (List.range D.length) (by simp)).2 (legC_ok h) (leg_short h hS) b0 b1 t0 g
  omega
theorem topReserveSuffices_r (nm : ByteArray) (s : Int) (G : List Ga) (D : List Le) (A B : Option Addr) (gn gc dn dc : Nat) (T : List Ox) (r : Ru) (AT : Option Addr) (tn tc : Nat) (t : Int) (w : World) (hz : nm.size ≤ 9223372036854775807) (hgn : Hid (gn = G.length)) (hgl : gn ≤ 9223372036854775807) (hdn : Hid (dn = D.length)) (hdl : dn ≤ 9223372036854775807) (hG : Hid (SlRows gaV 2 w A G)) (hD : Hid (SlRows leV 3 w B D)) (CG : Hid (A = none → gn = 0 ∧ gc = 0)) (CD : Hid (B = none → dn = 0 ∧ dc = 0)) (htn : Hid (tn = T.length)) (htl : tn ≤ 9223372036854775807) (hT : Hid (SlRows oxV 2 w AT T)) (CT : Hid (AT = none → tn = 0 ∧ tc = 0)) :
    Calls Try.prog 3 #[.agg #[.string nm, .int .i64 s, .slice A gn gc, .slice B dn dc], .agg #[.slice AT tn tc, .int .i64 r.a, .int .i64 r.b, .int .i64 r.nc, .int .i64 r.dn, .int .i64 r.br, .int .i64 r.em, .int .i64 r.pa, .int .i64 r.sc], .int .i64 t] w fun e w' => e = .returned (.bool true) ∧ Below w.heap.size w w' := by
  obtain ⟨N, E0, hE0⟩ : ∃ N E0, plnP nm s G D = (N, E0) := ⟨_, _, rfl⟩
  obtain ⟨E1, hE1⟩ : ∃ z, ruE T r = z := ⟨_, rfl⟩
  cases hb : briefV (shortB nm.size dn gn) E0 (secT D dn) with
  | false => exact rt_brief nm s G D A B gn gc dn dc T r AT tn tc t _ N E0 w hz hgn hgl hdn hdl hG hD CG CD htn htl hT CT (Lib.hid rfl) (Lib.hid hE0) (Lib.hid hb)
  | true =>
    cases hF : fewB tn with
    | false => exact rt_few nm s G D A B gn gc dn dc T r AT tn tc t _ N E0 w hz hgn hgl hdn hdl hG hD CG CD htn htl hT CT (Lib.hid rfl) (Lib.hid hE0) (Lib.hid hb) (Lib.hid hF)
    | true =>
      have hS1 : shortB nm.size dn gn = true := by
        unfold briefV at hb
        simp only [Bool.and_eq_true] at hb
        exact hb.1
      by_cases h3 : firE [E0, E1] = 0
      · have ha := firE_all h3
        obtain rfl : E0 = 0 := ha _ (by simp)
        obtain rfl : E1 = 0 := ha _ (by simp)
        have hok := pln_ok hE0
        have hru := ru_ok hE1
        by_cases h400 : 400 < secT D dn
        · exact rt_long nm s G D A B gn gc dn dc T r AT tn tc t _ N _ w hz hgn hgl hdn hdl hG hD CG CD htn htl hT CT (Lib.hid hS1) (Lib.hid rfl) (Lib.hid hE0) (Lib.hid hb) (Lib.hid hF) (Lib.hid hE1) (Lib.hid rfl) (Lib.hid hok) (Lib.hid rfl) h400
        by_cases hd0 : dn = 0
        · exact rt_none nm s G D A B gn gc dn dc T r AT tn tc t _ N _ w hz hgn hgl hdn hdl hG hD CG CD htn htl hT CT (Lib.hid hS1) (Lib.hid rfl) (Lib.hid hE0) (Lib.hid hb) (Lib.hid hF) (Lib.hid hE1) (Lib.hid rfl) (Lib.hid hok) (Lib.hid rfl) h400 (Lib.hid hd0)
        cases hin : inB t 0 (secT D dn) with
        | false => exact rt_out nm s G D A B gn gc dn dc T r AT tn tc t _ N _ w hz hgn hgl hdn hdl hG hD CG CD htn htl hT CT (Lib.hid hS1) (Lib.hid rfl) (Lib.hid hE0) (Lib.hid hb) (Lib.hid hF) (Lib.hid hE1) (Lib.hid rfl) (Lib.hid hok) (Lib.hid rfl) h400 (by omega) (Lib.hid hin)
        | true =>
          have htt := inB_iff.1 hin
          have hgG := hgn.out
          have hdD := hdn.out
          have hD0 : 0 < D.length := by omega
          have hG0 := hok.g0
          have h8 : dn ≤ 8 := by
            have h := hS1
            unfold shortB at h
            simp only [Bool.and_eq_true, Bool.or_eq_true, decide_eq_true_eq] at h
            have := hok.d6
            omega
          have hg8 := hok.g8
          have ht9 : t ≤ secT D D.length := by rw [← hdD]; exact htt.2
          have hS9 : secT D D.length ≤ 20000 := by rw [← hdD]; omega
          obtain ⟨l1, l2, l3⟩ := lgN_is hok hD0 ht9
          have l4 := lgN_beg hok hD0 htt.1 ht9
          obtain ⟨g1, g2⟩ := ndG_lt hok hD0 ht9
          have hndT := ndV_T (r := r) hok hD0 htt.1 ht9
          have hneed := need_ge hok hru hS9 hD0 htt.1 ht9
          obtain ⟨kk, hkk⟩ : ∃ z, lgN D t = z := ⟨_, rfl⟩
          obtain ⟨gk, hgk⟩ : ∃ z, ndG s G D t = z := ⟨_, rfl⟩
          rw [hkk] at l1 l2 l3 l4 hndT g2
          rw [hgk] at g1 g2 hndT
          have hp := legK_ok (s := s) (G := G) hok l1
          have hsu := secT_succ l1
          obtain ⟨a1, a2, a3, a4, _, _⟩ := hok.le _ (List.getElem_mem l1)
          have hbd := hp.bd
          have hbdE : (legK s G D kk).bd = (ptK D kk).d := rfl
          rw [hbdE] at hbd
          have hsec1 := hok.sec kk
          have hsec2 := hok.sec (kk + 1)
          have hgl7 : (legK s G D kk).g = D[kk].g := by show (D.getD _ default).g = _; rw [getD_leE l1]
          rw [hgl7] at g2
          have hleg := leg_num (s := s) (G := G) hok l1 t
          have hsK : (legK s G D kk).s = D[kk].s := by show (D.getD kk default).s = _; rw [getD_leE l1]
          have hyb : (((ptL D (dn + 1)).getD (kk + 1) default).d) = D[kk].d := by
            rw [ptL_getD (by omega)]
            unfold ptK
            rw [if_neg (by omega), Nat.add_sub_cancel, getD_leE l1]
          obtain ⟨num, hnum⟩ : ∃ z, (ptK D kk).d * (secT D (kk + 1) - t) + D[kk].d * (t - secT D kk) = z := ⟨_, rfl⟩
          obtain ⟨den, hden⟩ : ∃ z, secT D (kk + 1) - secT D kk = z := ⟨_, rfl⟩
          have hdv : depV (legK s G D kk) (t - secT D kk) = upE num den := by
            unfold depV
            rw [← hleg, hnum, hsK, ← hden]
            congr 1
            omega
          have hdb := dep_bd hp (q := t - secT D kk) (by omega) (by omega)
          rw [hdv] at hdb hndT
          have i1 := mul_bd hbd.1 hbd.2 (show 0 ≤ secT D (kk + 1) - t by omega) (show secT D (kk + 1) - t ≤ 1000000 by omega)
          have i2 := mul_bd a3 a4 (show 0 ≤ t - secT D kk by omega) (show t - secT D kk ≤ 1000000 by omega)
          have hn0 : 0 ≤ num := by omega
          have hn1 : num ≤ 60000000000 := by omega
          have hem := escV_mx hru hok.su.1 hok.su.2 hdb.2.2.2.2.2.1 hdb.2.2.2.2.2.2
          obtain ⟨gF, vF, sF, hF9⟩ : ∃ (gF : Nat → Nat) (vF sF : Nat → Int), ∀ i : Nat, gF i = ndG s G D (0 + (i : Int)) ∧ vF i = ndV r s G D (0 + (i : Int)) ∧ sF i = 0 + (i : Int) := ⟨fun i => ndG s G D (0 + (i : Int)), fun i => ndV r s G D (0 + (i : Int)), fun i => 0 + (i : Int), fun i => ⟨rfl, rfl, rfl⟩⟩
          obtain ⟨NN, hNN⟩ : ∃ z, ndN D 0 = z := ⟨_, rfl⟩
          have hgL : ∀ i, i < NN → gF i < gn := fun i hi => by
            rw [(hF9 i).1, hgn.out]
            have h := ndN_ltR (show i < ndN D 0 by rw [hNN]; exact hi)
            exact (ndG_lt hok h.1 (by rw [Int.zero_add]; exact h.2)).1
          have hll : (rvG rvS gF vF sF gn NN).length = gn := rvG_len NN
          have hch := fun g (hg : g < gn) => rv_char (vF := vF) (sF := sF) hgL NN (Nat.le_refl _) g hg
          obtain ⟨tn9, htn9⟩ : ∃ tn9 : Nat, t = (tn9 : Int) := ⟨t.toNat, by omega⟩
          have htN : tn9 < NN := by
            rw [← hNN]
            unfold ndN
            rw [if_neg (by omega)]
            omega
          have hft := hF9 tn9
          rw [Int.zero_add, ← htn9] at hft
          have hmx := (hch gk (by omega)).2.1 tn9 htN (by rw [hft.1, hgk])
          have hm0 := (hch gk (by omega)).1
          rw [hft.2.1, hndT] at hmx
          have hu0 := fun g => conT_bd8 (n := gn) (t := t) hok hS9 hru.br.1 hru.br.2 htt.1 (by omega) g
          have hUl : (conT r.br t (legK s G D) gn (List.range D.length)).length = gn := (conT_snocL r.br t (legK s G D) gn D.length (List.range D.length) (by simp)).1
          rw [← hdD] at hUl hu0
          rw [← hgG, ← hdD] at hmx
          have hmb : ((rvG rvS gF vF sF gn NN).getD gk (0, -1)).1 ≤ 4000000000000000000 := by
            by_cases hp0 : 0 < ((rvG rvS gF vF sF gn NN).getD gk (0, -1)).1
            · obtain ⟨k9, k1, _, k2, _⟩ := (hch gk (by omega)).2.2 hp0
              have h5 := ndN_ltR (show k9 < ndN D 0 by rw [hNN]; exact k1)
              rw [← k2, (hF9 k9).2.1, Int.zero_add]
              have h6 := ndV_T (r := r) hok h5.1 (show 0 ≤ (k9 : Int) by omega) h5.2
              rw [h6]
              have h7 := conT_bd8 (n := G.length) (t := (k9 : Int)) hok hS9 hru.br.1 hru.br.2 (by omega) (by omega) (ndG s G D (k9 : Int))
              obtain ⟨m1, m2, m3⟩ := lgN_is hok h5.1 h5.2
              have m4 := lgN_beg hok h5.1 (by omega) h5.2
              have m5 := secT_succ m1
              have m6 := legK_ok (s := s) (G := G) hok m1
              have m7 : (legK s G D (lgN D (k9 : Int))).s = D[lgN D (k9 : Int)].s := by show (D.getD _ default).s = _; rw [getD_leE m1]
              have m8 := dep_bd m6 (q := (k9 : Int) - secT D (lgN D (k9 : Int))) (by omega) (by omega)
              have m9 := escV_mx hru hok.su.1 hok.su.2 m8.2.2.2.2.2.1 m8.2.2.2.2.2.2
              omega
            · omega
          have hUg : ∀ j (hj : j < (conT r.br t (legK s G D) gn (List.range dn)).length), (conT r.br t (legK s G D) gn (List.range dn))[j] = (conT r.br t (legK s G D) gn (List.range dn)).getD j 0 := fun j hj => by rw [List.getD_eq_getElem?_getD, List.getElem?_eq_getElem hj]; rfl
          have hF20 : (if 20000 < secT D dn then (8 : Int) else 0) = 0 := if_neg (by omega)
          have hxa : ((ptL D (dn + 1)).getD kk default).s = secT D kk := by rw [ptL_getD (by omega)]; rfl
          have hya : ((ptL D (dn + 1)).getD kk default).d = (ptK D kk).d := by rw [ptL_getD (by omega)]
          have hxb : ((ptL D (dn + 1)).getD (kk + 1) default).s = secT D (kk + 1) := by rw [ptL_getD (by omega)]; rfl
          have hE9 : firE [0, 0, if 20000 < secT D dn then (8 : Int) else 0] = 0 := by rw [hF20]; rfl
          have hu9b := hu0 gk
          cases hwh : decide (num % den = 0) with
          | false =>
            exact rt_form nm s G D A B gn gc dn dc T r AT tn tc t _ N _ gF vF sF NN gk _ _ _ _ _ _ _ kk _ _ _ _ num den _ _ w hz hgn hgl hdn hdl hG hD CG CD htn htl hT CT (Lib.hid hS1) (Lib.hid rfl) (Lib.hid hE0) (Lib.hid hb) (Lib.hid hF) (Lib.hid hE1) (Lib.hid rfl) (Lib.hid hok) (Lib.hid rfl) (Lib.hid (by omega)) (by omega) (Lib.hid hin) hG0 hD0 (by omega) (Lib.hid hE9) (Lib.hid hF9) (Lib.hid hNN) (Lib.hid rfl) (Lib.hid hll) (by omega) (by omega) (Lib.hid g2) (Lib.hid (rngE_t (inB_iff.2 hru.br))) (Lib.hid hF20) (Lib.hid (rngE_t hin)) (Lib.hid rfl) (Lib.hid rfl) (Lib.hid hUl.symm) (Lib.hid fun j hj => by rw [hUg j hj]; exact hu0 j) (Lib.hid (inB_iff.2 ⟨by omega, by omega⟩)) (Lib.hid (rngE_t (inB_iff.2 hok.su))) (Lib.hid (rngE_t (inB_iff.2 hdb.2.2.2.2.2))) (Lib.hid rfl) (Lib.hid rfl) (Lib.hid (inB_iff.2 hem)) (by omega) (by omega) (Lib.hid rfl) (Lib.hid rfl) (Lib.hid (hUg gk (by omega))) (Lib.hid ⟨hm0, hmb⟩) (Lib.hid hu9b) (Lib.hid rfl) (Lib.hid (by omega)) htt.1 htt.2 (Lib.hid l2) (Lib.hid l3) (Lib.hid hxa) (Lib.hid hya) (Lib.hid hxb) (Lib.hid hyb) hsec1.1 l4 l3 hsec2.2 (by omega) hbd.1 hbd.2 a3 a4 (Lib.hid hnum) (Lib.hid hden) (Lib.hid rfl) (Lib.hid rfl) hn0 hn1 (Lib.hid hwh)
          | true =>
            have hw0 : num % den = 0 := by simpa using hwh
            obtain ⟨nb, DB, d1, d2, d3, d4, d5, d6, d7, d8, d9, d10⟩ := bf_data hok hD0 htt.1 ht9 l1 l2 l3 hnum hden rfl hw0 r
            obtain ⟨gH, vH, sH, hFH⟩ : ∃ (gH : Nat → Nat) (vH sH : Nat → Int), ∀ i : Nat, gH i = ndG s G DB (0 + (i : Int)) ∧ vH i = ndV r s G DB (0 + (i : Int)) ∧ sH i = 0 + (i : Int) := ⟨fun i => ndG s G DB (0 + (i : Int)), fun i => ndV r s G DB (0 + (i : Int)), fun i => 0 + (i : Int), fun i => ⟨rfl, rfl, rfl⟩⟩
            have hE9B := pln_of_ok hE0 d7
            have hle : ∀ g, g < gn → ((rvG rvS gH vH sH gn (ndN DB 0)).getD g (0, -1)).1 ≤ ((rvG rvS gF vF sF gn NN).getD g (0, -1)).1 := fun g _ => rv_less hgL (by omega) (fun j hj => by
              obtain ⟨q1, q2⟩ := d10 j hj
              obtain ⟨f1, f2, f3⟩ := hF9 j
              obtain ⟨h1, h2, h3⟩ := hFH j
              rw [Int.zero_add] at f1 f2 f3 h1 h2 h3
              exact ⟨by rw [h1, f1, q1], by rw [h2, f2, q2], by rw [h3, f3]⟩) g
            exact rt_good nm s G D A B gn gc dn dc T r AT tn tc t _ N _ gF vF sF NN gk _ _ _ _ _ _ _ kk _ _ _ _ num den _ _ nb DB gH vH sH _ _ w hz hgn hgl hdn hdl hG hD CG CD htn htl hT CT (Lib.hid hS1) (Lib.hid rfl) (Lib.hid hE0) (Lib.hid hb) (Lib.hid hF) (Lib.hid hE1) (Lib.hid rfl) (Lib.hid hok) (Lib.hid rfl) (Lib.hid (by omega)) (by omega) (Lib.hid hin) hG0 hD0 (by omega) (Lib.hid hE9) (Lib.hid hF9) (Lib.hid hNN) (Lib.hid rfl) (Lib.hid hll) (by omega) (by omega) (Lib.hid g2) (Lib.hid (rngE_t (inB_iff.2 hru.br))) (Lib.hid hF20) (Lib.hid (rngE_t hin)) (Lib.hid rfl) (Lib.hid rfl) (Lib.hid hUl.symm) (Lib.hid fun j hj => by rw [hUg j hj]; exact hu0 j) (Lib.hid (inB_iff.2 ⟨by omega, by omega⟩)) (Lib.hid (rngE_t (inB_iff.2 hok.su))) (Lib.hid (rngE_t (inB_iff.2 hdb.2.2.2.2.2))) (Lib.hid rfl) (Lib.hid rfl) (Lib.hid (inB_iff.2 hem)) (by omega) (by omega) (Lib.hid rfl) (Lib.hid rfl) (Lib.hid (hUg gk (by omega))) (Lib.hid ⟨hm0, hmb⟩) (Lib.hid hu9b) (Lib.hid rfl) (Lib.hid (by omega)) htt.1 htt.2 (Lib.hid l2) (Lib.hid l3) (Lib.hid hxa) (Lib.hid hya) (Lib.hid hxb) (Lib.hid hyb) hsec1.1 l4 l3 hsec2.2 (by omega) hbd.1 hbd.2 a3 a4 (Lib.hid hnum) (Lib.hid hden) (Lib.hid rfl) (Lib.hid rfl) hn0 hn1 (Lib.hid hwh)
              (Lib.hid d1) (by omega) (Lib.hid d3) (Lib.hid (by rw [hdD]; exact d4)) (Lib.hid d5) (Lib.hid d6) (by omega) (Lib.hid hE9B) (Lib.hid (by rw [if_neg (by omega)]; rfl)) (Lib.hid hFH) (Lib.hid rfl) (Lib.hid rfl) (Lib.hid (rvG_len _)) (Lib.hid hle)
      · exact rt_both nm s G D A B gn gc dn dc T r AT tn tc t _ N E0 E1 _ w hz hgn hgl hdn hdl hG hD CG CD htn htl hT CT (Lib.hid hS1) (Lib.hid rfl) (Lib.hid hE0) (Lib.hid hb) (Lib.hid hF) (Lib.hid hE1) (Lib.hid rfl) (by simpa using h3)
theorem nilCap {α : Type} {f : α → List Value} {k : Nat} {w : World} {A : Option Addr} {L : List α} {c : Nat} (h : SlRows f k w A L) (hn : A = none → c = 0) : A = none → L.length = 0 ∧ c = 0 := fun e => by
  rcases h with h | ⟨b, o, h, _⟩
  · exact ⟨by rw [h]; rfl, hn e⟩
  · rw [e] at h; cases h
theorem topReserveSuffices_any (nm : ByteArray) (s : Int) (G : List Ga) (GA : Option Addr) (gc : Nat) (D : List Le) (DA : Option Addr) (dc : Nat) (T : List Ox) (A : Option Addr) (cap : Nat) (ra rb rnc rdn rbr rem rpa rsc : Int) (t : Int) (w : World) (hnm : nm.size ≤ 9223372036854775807) (hGl : G.length ≤ 9223372036854775807) (hGn : GA = none → gc = 0) (hGs : SlRows gaV 2 w GA G) (hDl : D.length ≤ 9223372036854775807) (hDn : DA = none → dc = 0) (hDs : SlRows leV 3 w DA D) (hTl : T.length ≤ 9223372036854775807) (hTn : A = none → cap = 0) (hTs : SlRows oxV 2 w A T) :
    Calls Try.prog 3 #[.agg #[.string nm, .int .i64 s, .slice GA G.length gc, .slice DA D.length dc], .agg #[.slice A T.length cap, .int .i64 ra, .int .i64 rb, .int .i64 rnc, .int .i64 rdn, .int .i64 rbr, .int .i64 rem, .int .i64 rpa, .int .i64 rsc], .int .i64 t] w fun e w' => e = .returned (.bool true) ∧ Below w.heap.size w w' := by
  exact topReserveSuffices_r nm s G D GA DA G.length gc D.length dc T ⟨ra, rb, rnc, rdn, rbr, rem, rpa, rsc⟩ A T.length cap t w hnm (Lib.hid rfl) hGl (Lib.hid rfl) hDl (Lib.hid hGs) (Lib.hid hDs) (Lib.hid (nilCap hGs hGn)) (Lib.hid (nilCap hDs hDn)) (Lib.hid rfl) hTl (Lib.hid hTs) (Lib.hid (nilCap hTs hTn))
end Go.Proofs.Ytgidmmmdpmophaa
