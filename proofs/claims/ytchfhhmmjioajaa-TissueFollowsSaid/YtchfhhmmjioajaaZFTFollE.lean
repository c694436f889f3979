import Derived.Test.YtchfhhmmjioajaaZFTLoadN
import Derived.Test.YtchfhhmmjioajaaZFMPlans
import Derived.Test.YtchfhhmmjioajaaZFTRefLeg
import Derived.Outline
namespace Go.Proofs.Ytchfhhmmjioajaa
open Go.ChangeShapes Go.WideShapes Go.ChangeAt Go.RowKit
set_option linter.unusedVariables false
set_option linter.unusedSimpArgs false
attribute [local go_sem ↓] Go.wp_at_zero Go.wp_at_succ
def tlE (x : Tl) : Int := legE x.f x.t x.s x.o x.h
def clE (G : List Tl) : Int := if 200 < G.length then 8 else fstE tlE G
theorem eachLeg1_is (i p0 p1 p2 p3 p4 : Int) (c : Nat) (w : World) (hc : w.cell? ⟨c, 0, none⟩ = some (.func (.func 34) #[] #[])) (hcl : c < w.heap.size) :
    Calls Try.prog 151 #[.int .i64 i, .agg #[.int .i64 p0, .int .i64 p1, .int .i64 p2, .int .i64 p3, .int .i64 p4], .pointer (some ⟨c, 0, none⟩)] w fun e w' => e = .returned (.int .i64 (legE p0 p1 p2 p3 p4)) ∧ Below w.heap.size w w' := by
  have o1 : c ≠ w.heap.size := by omega
  have o2 : w.heap.size ≠ c := by omega
  go_enter Try.func151, Try.ntmps151
  go_wp2_with fail
  refine (CheckLeg_any p0 p1 p2 p3 p4 _).mono ?_
  rintro e w1 ⟨rfl, hb1⟩
  have hB1 : Below w.heap.size w w1 := (by (repeat (first | (with_reducible refine Below.drew ?_) | (with_reducible refine below_drewN ?_ _) | (with_reducible refine Below.alloc ?_ (by first | omega | (simp; done) | (simp; omega) | (simp at *; omega)) _) | (with_reducible refine Below.setCell ?_ (by first | omega | (simp; done) | (simp; omega) | (simp at *; omega)) _) | (with_reducible exact Below.refl _ _) | (with_reducible assumption) | (with_reducible refine Below.trans ?_ (Below.mono (by assumption) (by first | omega | (simp; done) | (simp; omega) | (simp at *; omega)))))))
  clear hb1
  go_wp2
  go_ret
  exact ⟨rfl, (by (repeat (first | (with_reducible refine Below.drew ?_) | (with_reducible refine below_drewN ?_ _) | (with_reducible refine Below.alloc ?_ (by first | omega | (simp; done) | (simp; omega) | (simp at *; omega)) _) | (with_reducible refine Below.setCell ?_ (by first | omega | (simp; done) | (simp; omega) | (simp at *; omega)) _) | (with_reducible exact Below.refl _ _) | (with_reducible assumption) | (with_reducible refine Below.trans ?_ (Below.mono (by assumption) (by first | omega | (simp; done) | (simp; omega) | (simp at *; omega)))))))⟩
def eachLegP (E : Int) (w : World) (e : Ending) (w' : World) : Prop := ∃ n : Int, e = .returned (.tuple #[.int .i64 n, .int .i64 E]) ∧ Below w.heap.size w w'
set_option maxRecDepth 100000 in
set_option maxHeartbeats 1000000 in
theorem eachLegN_any (L : List Tl) (A : Option Addr) (cap c : Nat) (w : World) (hl : L.length ≤ 1000000) (hL : SlTl w A L) (hc : w.cell? ⟨c, 0, none⟩ = some (.func (.func 34) #[] #[])) (hcl : c < w.heap.size) :
    Calls Try.prog 150 #[.slice A L.length cap, .func (.func 151) #[] #[.pointer (some ⟨c, 0, none⟩)]] w (eachLegP (fstE tlE L) w) := by
  have HC := Lib.hid hc
  clear hc
  obtain ⟨E, hE⟩ : ∃ E, Hid (fstE tlE L = E) := ⟨_, Lib.hid rfl⟩
  rw [hE.out]
  rcases hL with rfl | ⟨b, off, rfl, hlt, hL⟩
  · have hr : Hid (E = 0) := Lib.hid (by rw [← hE.out]; rfl)
    clear hE
    go_enter Try.func150, Try.ntmps150
    go_wp2
    refine wp_loop_rounds 1 ?_
    rw [rounds_succ]
    go_wp2
    go_ret2
    exact ⟨0, by rw [hr.out]; rfl, (by (repeat (first | (with_reducible refine Below.drew ?_) | (with_reducible refine below_drewN ?_ _) | (with_reducible refine Below.alloc ?_ (by first | omega | (simp; done) | (simp; omega) | (simp at *; omega)) _) | (with_reducible refine Below.setCell ?_ (by first | omega | (simp; done) | (simp; omega) | (simp at *; omega)) _) | (with_reducible exact Below.refl _ _) | (with_reducible assumption) | (with_reducible refine Below.trans ?_ (Below.mono (by assumption) (by first | omega | (simp; done) | (simp; omega) | (simp at *; omega)))))))⟩
  have HP : Hid (TlAt w b off L) := hL
  clear hL
  go_enter Try.func150, Try.ntmps150
  go_wp2
  go_loopw [11] (fun i wr => ∃ k : Nat, k ≤ L.length ∧ i = .int .i64 k ∧ Hid (∀ j, (hj : j < k) → (hj' : j < L.length) → tlE L[j] = 0) ∧ Below w.heap.size w wr) (fun i _ => L.length - (intOf i).toNat)
  case atStart => exact ⟨0, by omega, rfl, fun j hj => by omega, (by (repeat (first | (with_reducible refine Below.drew ?_) | (with_reducible refine below_drewN ?_ _) | (with_reducible refine Below.alloc ?_ (by first | omega | (simp; done) | (simp; omega) | (simp at *; omega)) _) | (with_reducible refine Below.setCell ?_ (by first | omega | (simp; done) | (simp; omega) | (simp at *; omega)) _) | (with_reducible exact Below.refl _ _) | (with_reducible assumption) | (with_reducible refine Below.trans ?_ (Below.mono (by assumption) (by first | omega | (simp; done) | (simp; omega) | (simp at *; omega)))))))⟩
  case round =>
    obtain ⟨k, hk, rfl, hz, hB⟩ := hrel
    by_cases hkl : k < L.length
    · obtain ⟨c0, c1, c2, c3, c4⟩ := HP.out.below hB hlt k hkl
      have hsz := hB.size
      have cw := (hB.cell (p := ⟨c, 0, none⟩) hcl).trans HC.out
      have hcw : c < wr.heap.size := by omega
      have CW : Hid (∀ v : Obj, (wr.alloc v).cell? ⟨c, 0, none⟩ = some (.func (.func 34) #[] #[]) ∧ c < (wr.alloc v).heap.size) := Lib.hid fun v => ⟨(((Below.refl wr.heap.size wr).alloc (Nat.le_refl _) v).cell (p := ⟨c, 0, none⟩) hcw).trans cw, by simp; omega⟩
      obtain ⟨p0, h0⟩ : ∃ x, Hid (L[k].f = x) := ⟨L[k].f, rfl⟩
      obtain ⟨p1, h1⟩ : ∃ x, Hid (L[k].t = x) := ⟨L[k].t, rfl⟩
      obtain ⟨p2, h2⟩ : ∃ x, Hid (L[k].s = x) := ⟨L[k].s, rfl⟩
      obtain ⟨p3, h3⟩ : ∃ x, Hid (L[k].o = x) := ⟨L[k].o, rfl⟩
      obtain ⟨p4, h4⟩ : ∃ x, Hid (L[k].h = x) := ⟨L[k].h, rfl⟩
      rw [h0.out] at c0
      rw [h1.out] at c1
      rw [h2.out] at c2
      rw [h3.out] at c3
      rw [h4.out] at c4
      have hpe : Hid (tlE L[k] = legE p0 p1 p2 p3 p4) := by unfold tlE Hid; rw [h0.out, h1.out, h2.out, h3.out, h4.out]
      obtain ⟨F, hF⟩ : ∃ F, Hid (legE p0 p1 p2 p3 p4 = F) := ⟨_, Lib.hid rfl⟩
      have HK := eachLeg1_is (k : Int) p0 p1 p2 p3 p4 c
      rw [hF.out] at HK hpe
      have HK2 := Lib.hid HK
      clear HK cw
      rcases ez2 F with ⟨hz0, hzb⟩ | ⟨hz0, hzb⟩
      · have hz2 : Hid (∀ j, (hj : j < k + 1) → (hj' : j < L.length) → tlE L[j] = 0) := fun j hj hj' => by
          by_cases e : j = k
          · subst e; rw [hpe.out]; exact hz0.out
          · exact hz.out j (by omega) hj'
        clear hz hz0
        go_wp2_with fail
        refine (HK2.out _ (CW.out _).1 (CW.out _).2).mono ?_
        rintro e w1 ⟨rfl, hb1⟩
        have hB1 : Below w.heap.size w w1 := (by (repeat (first | (with_reducible refine Below.drew ?_) | (with_reducible refine below_drewN ?_ _) | (with_reducible refine Below.alloc ?_ (by first | omega | (simp; done) | (simp; omega) | (simp at *; omega)) _) | (with_reducible refine Below.setCell ?_ (by first | omega | (simp; done) | (simp; omega) | (simp at *; omega)) _) | (with_reducible exact Below.refl _ _) | (with_reducible assumption) | (with_reducible refine Below.trans ?_ (Below.mono (by assumption) (by first | omega | (simp; done) | (simp; omega) | (simp at *; omega)))))))
        clear hb1
        go_wp2
        go_roundw
        case rel => exact ⟨k + 1, by omega, by go_num, hz2, hB1⟩
        case measure => simp [intOf]; omega
      · have hr : Hid (E = F) := Lib.hid (by
          have h1 : tlE L[k] ≠ 0 := by rw [hpe.out]; exact hz0.out
          have h2 := fstE_at hkl (fun j hj => hz.out j hj (by omega)) h1
          rw [hpe.out, hE.out] at h2
          exact h2)
        clear hz
        go_wp2_with fail
        refine (HK2.out _ (CW.out _).1 (CW.out _).2).mono ?_
        rintro e w1 ⟨rfl, hb1⟩
        have hB1 : Below w.heap.size w w1 := (by (repeat (first | (with_reducible refine Below.drew ?_) | (with_reducible refine below_drewN ?_ _) | (with_reducible refine Below.alloc ?_ (by first | omega | (simp; done) | (simp; omega) | (simp at *; omega)) _) | (with_reducible refine Below.setCell ?_ (by first | omega | (simp; done) | (simp; omega) | (simp at *; omega)) _) | (with_reducible exact Below.refl _ _) | (with_reducible assumption) | (with_reducible refine Below.trans ?_ (Below.mono (by assumption) (by first | omega | (simp; done) | (simp; omega) | (simp at *; omega)))))))
        clear hb1
        go_wp2
        go_ret2
        exact ⟨(k : Int), by rw [hr.out]; rfl, hB1⟩
    · have hkk : k = L.length := by omega
      have hr : Hid (E = 0) := Lib.hid (by rw [← hE.out]; exact fstE_z fun j hj => hz.out j (by omega) hj)
      clear hz hkk
      go_wp2
      go_ret2
      exact ⟨0, by rw [hr.out]; rfl, hB⟩
set_option maxHeartbeats 1000000 in
theorem eachLeg_any (L : List Tl) (A : Option Addr) (cap : Nat) (w : World) (hl : L.length ≤ 1000000) (hL : SlTl w A L) :
    Calls Try.prog 132 #[.slice A L.length cap, .func (.func 34) #[] #[]] w fun e w' => e = .returned (.int .i64 (fstE tlE L)) ∧ Below w.heap.size w w' := by
  have HR : Hid (∀ w' : World, Below w.heap.size w w' → SlTl w' A L) := Lib.hid fun w' hB => hL.below hB
  clear hL
  go_enter Try.func132, Try.ntmps132
  go_wp2_with fail
  refine (eachLegN_any L A cap w.heap.size _ hl (HR.out _ (by (repeat (first | (with_reducible refine Below.drew ?_) | (with_reducible refine below_drewN ?_ _) | (with_reducible refine Below.alloc ?_ (by first | omega | (simp; done) | (simp; omega) | (simp at *; omega)) _) | (with_reducible refine Below.setCell ?_ (by first | omega | (simp; done) | (simp; omega) | (simp at *; omega)) _) | (with_reducible exact Below.refl _ _) | (with_reducible assumption) | (with_reducible refine Below.trans ?_ (Below.mono (by assumption) (by first | omega | (simp; done) | (simp; omega) | (simp at *; omega)))))))) (by simp [go_sem]) (by simp)).mono ?_
  rintro e w1 ⟨i, rfl, hb1⟩
  have hB1 : Below w.heap.size w w1 := (by (repeat (first | (with_reducible refine Below.drew ?_) | (with_reducible refine below_drewN ?_ _) | (with_reducible refine Below.alloc ?_ (by first | omega | (simp; done) | (simp; omega) | (simp at *; omega)) _) | (with_reducible refine Below.setCell ?_ (by first | omega | (simp; done) | (simp; omega) | (simp at *; omega)) _) | (with_reducible exact Below.refl _ _) | (with_reducible assumption) | (with_reducible refine Below.trans ?_ (Below.mono (by assumption) (by first | omega | (simp; done) | (simp; omega) | (simp at *; omega)))))))
  clear hb1
  go_wp2
  go_ret
  exact ⟨rfl, hB1⟩
theorem checkLegs_is (G : List Tl) (A : Option Addr) (cap : Nat) (r : Int) (w : World) (hl : G.length ≤ 1000000) (hr : Hid (clE G = r)) (hG : SlTl w A G) :
    Calls Try.prog 94 #[.slice A G.length cap] w fun e w' => e = .returned (.int .i64 r) ∧ Below w.heap.size w w' := by
  by_cases hb : 200 < G.length
  · have hb2 : (200 : Int) < G.length := by omega
    have hv : Hid (8 = r) := by show _ = _; rw [← hr.out, clE, if_pos hb]
    clear hr
    go_enter Try.func94, Try.ntmps94
    go_wp2
    go_ret
    exact ⟨ret_int hv.out, (by (repeat (first | (with_reducible refine Below.drew ?_) | (with_reducible refine below_drewN ?_ _) | (with_reducible refine Below.alloc ?_ (by first | omega | (simp; done) | (simp; omega) | (simp at *; omega)) _) | (with_reducible refine Below.setCell ?_ (by first | omega | (simp; done) | (simp; omega) | (simp at *; omega)) _) | (with_reducible exact Below.refl _ _) | (with_reducible assumption) | (with_reducible refine Below.trans ?_ (Below.mono (by assumption) (by first | omega | (simp; done) | (simp; omega) | (simp at *; omega)))))))⟩
  · have hb2 : ¬ (200 : Int) < G.length := by omega
    have hv : Hid (fstE tlE G = r) := by show _ = _; rw [← hr.out, clE, if_neg hb]
    have HE := Lib.hid (fun w' (hg : SlTl w' A G) => eachLeg_any G A cap w' hl hg)
    clear hr
    go_enter Try.func94, Try.ntmps94
    go_wp2_with fail
    refine (HE.out _ (hG.below (by exact (by (repeat (first | (with_reducible refine Below.drew ?_) | (with_reducible refine below_drewN ?_ _) | (with_reducible refine Below.alloc ?_ (by first | omega | (simp; done) | (simp; omega) | (simp at *; omega)) _) | (with_reducible refine Below.setCell ?_ (by first | omega | (simp; done) | (simp; omega) | (simp at *; omega)) _) | (with_reducible exact Below.refl _ _) | (with_reducible assumption) | (with_reducible refine Below.trans ?_ (Below.mono (by assumption) (by first | omega | (simp; done) | (simp; omega) | (simp at *; omega)))))))))).mono ?_
    rintro e w1 ⟨rfl, hb1⟩
    have hB1 : Below w.heap.size w w1 := (by (repeat (first | (with_reducible refine Below.drew ?_) | (with_reducible refine below_drewN ?_ _) | (with_reducible refine Below.alloc ?_ (by first | omega | (simp; done) | (simp; omega) | (simp at *; omega)) _) | (with_reducible refine Below.setCell ?_ (by first | omega | (simp; done) | (simp; omega) | (simp at *; omega)) _) | (with_reducible exact Below.refl _ _) | (with_reducible assumption) | (with_reducible refine Below.trans ?_ (Below.mono (by assumption) (by first | omega | (simp; done) | (simp; omega) | (simp at *; omega)))))))
    clear hb1
    go_wp2
    go_ret
    exact ⟨ret_int hv.out, hB1⟩
/-- The loads behind the first k legs. -/
noncomputable def fol (T : List Cm) (n : Nat) (L : List Ld) (G : List Tl) : Nat → List Ld
  | 0 => L
  | k + 1 => ldR (G.getD k default).f (G.getD k default).t (G.getD k default).s n (G.getD k default).o (G.getD k default).h T (fol T n L G k) (stK (G.getD k default).s n)
theorem fol_fit {T : List Cm} {n : Nat} {L : List Ld} {G : List Tl} (hq : loadsE T L = 0) (hG : fstE tlE G = 0) (hn : n ≤ 6) : ∀ k, k ≤ G.length → loadsE T (fol T n L G k) = 0
  | 0, _ => hq
  | k + 1, hk => by
    have i := fol_fit hq hG hn k (by omega)
    have := fstE_all hG k (by omega)
    unfold fol
    rw [getD_of (show k < G.length by omega)]
    exact ldR_fit i this hn (Nat.le_refl _)
end Go.Proofs.Ytchfhhmmjioajaa
