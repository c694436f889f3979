import Derived.Test.YtijdphlejokijaaGreatERSECpP
import Derived.Test.YtijdphlejokijaaGreatERSCol
import Derived.Test.YtijdphlejokijaaGreatERSECta
import Derived.Test.YtijdphlejokijaaGreatERSERule
import Derived.Outline
namespace Go.Proofs.YtijdphlejokijaaGreat
open Go.ChangeShapes Go.WideShapes Go.ChangeAt Go.RowKit
set_option linter.unusedVariables false
set_option linter.unusedSimpArgs false
attribute [local go_sem ↓] Go.wp_at_zero Go.wp_at_succ
theorem copyIn_is (L : List Int) (A : Option Addr) (cap n : Nat) (w : World) (hn : Hid (n = L.length)) (hl : n ≤ 1000000) (hS : Hid (SlRows inV 1 w A L)) (hC : Hid (A = none → n = 0 ∧ cap = 0)) :
    Calls Tryz.prog 14 #[.slice A n cap] w fun e w' => ∃ (G : Option Addr) (cg : Nat), e = .returned (.slice G n cg) ∧ SlRows inV 1 w' G L ∧ (∀ ad, G = some ad → w.heap.size ≤ ad.block) ∧ (G = none → n = 0 ∧ cg = 0) ∧ Below w.heap.size w w' := by
  obtain ⟨i0, hi, hz0, hz1, hz2⟩ := info_partsG infoIn
  have HI := Lib.hid hi
  have HZ0 := Lib.hid hz0
  have HZ1 := Lib.hid hz1
  have HZ2 := Lib.hid hz2
  have HL := Lib.hid (rowsV_len (f := inV) (n := 1) (fun _ => rfl) L)
  rw [← hn.out] at HL
  have HO := Lib.hid (World.ownsRow_made (base := w.heap.size) (e := 3) (size := 1) w #[] 0 (Nat.le_refl _) (by simp) (by simp))
  have HX := Lib.hid (srcG (f := inV) (n := 1) (fun _ => rfl) (by decide) (hS.out.below (Below.alloc (Below.refl _ w) (Nat.le_refl _) (.cells #[] 3))))
  clear hi hz0 hz1 hz2 hS
  go_enter Tryz.func14, Tryz.ntmps14
  go_wp2_with (at_builtin; refine wpList_append_slG rfl _ _ 42 rfl w.heap.size 3 i0 (.int .i64 0) 1 8 Tryz.underlying42 HI.out HZ0.out HZ1.out HZ2.out rfl (by decide) _ 0 [] rfl HO.out A n cap (rowsV inV L) rfl hC.out HL.out HX.out (rows_one inV_one L) ?c1 ?c2 ?c3 ?_)
  case c1 => unfold maxLen; omega
  case c2 => omega
  case c3 => simp
  intro v' w1 hown hgrow hblk
  have hB : Below w.heap.size w w1 := ((Below.refl w.heap.size w).alloc (Nat.le_refl _) _).grown hgrow (by simp) (by intro k hk; simp [Value.ownBlock] at hk; omega)
  (try simp only [Nat.zero_add, List.nil_append] at hown)
  obtain ⟨G, cg, hv, hS, hGB, hN, _, _⟩ := SlRows_own (f := inV) (n := 1) (L := L) (fun _ => rfl) (by rw [← hn.out]; exact hown)
  rw [← hn.out] at hv
  subst hv
  have HS := Lib.hid hS
  have HGB := Lib.hid hGB
  have HN : Hid (G = none → n = 0 ∧ cg = 0) := Lib.hid fun h => And.intro (by
    rcases hown.2 with ⟨_, h0⟩ | ⟨g, _, _, hv, _⟩
    · exact h0
    · rw [h] at hv; cases hv) (hN h)
  clear hown hgrow hblk hS hN hGB
  go_wp2
  go_ret
  exact ⟨G, cg, rfl, HS.out, HGB.out, HN.out, hB⟩
/-- The error of amounts: as many as the gases, each in its range. -/
def amAll (L : List Int) : Bool := decide (∀ x ∈ L, inB x 0 1000000000 = true)
def amE (L : List Int) (gn : Nat) : Int := if L.length = gn then (if amAll L = true then 0 else 2) else 10
theorem amAll_f {L : List Int} {k : Nat} (hk : k < L.length) (h : inB L[k] 0 1000000000 = false) : amAll L = false := by
  unfold amAll
  rw [decide_eq_false_iff_not]
  intro hh
  rw [hh _ (List.getElem_mem hk)] at h
  cases h
theorem amAll_t {L : List Int} (h : ∀ j (hj : j < L.length), inB L[j] 0 1000000000 = true) : amAll L = true := by
  unfold amAll
  rw [decide_eq_true_iff]
  intro x hx
  obtain ⟨j, hj, rfl⟩ := List.getElem_of_mem hx
  exact h j hj
theorem sl_intA {w : World} {b o : Nat} {L : List Int} (h : SlRows inV 1 w (some ⟨b, o, none⟩) L) {k : Nat} {v : Int} (hk : k < L.length) (hv : L[k] = v) : w.cell? ⟨b, o + k, none⟩ = some (.int .i64 v) := by
  rcases h with h | ⟨b', o', e, _, hR⟩
  · rw [h] at hk; simp at hk
  · cases e
    have := hR k hk 0 (by omega)
    rw [show o + k * 1 + 0 = o + k by omega] at this
    rw [this, ← hv]
    rfl
theorem amt1_is (n E : Int) (w : World) (hE : Hid (rngE n 0 1000000000 = E)) : Calls Tryz.prog 94 #[.int .i64 n] w fun e w' => e = .returned (.int .i64 E) ∧ w = w' := by
  go_enter Tryz.func94, Tryz.ntmps94
  go_wp2_with fail
  refine (cRange_is n 0 1000000000 E _ hE).mono ?_
  rintro e w1 ⟨rfl, rfl⟩
  go_wp2
  go_ret
  exact ⟨rfl, rfl⟩
theorem amt2_is (i n E : Int) (c : Nat) (w : World) (hc : w.cell? ⟨c, 0, none⟩ = some (.func (.func 94) #[] #[])) (hE : Hid (rngE n 0 1000000000 = E)) :
    Calls Tryz.prog 110 #[.int .i64 i, .int .i64 n, .pointer (some ⟨c, 0, none⟩)] w fun e w' => e = .returned (.int .i64 E) ∧ w = w' := by
  go_enter Tryz.func110, Tryz.ntmps110
  go_wp2_with fail
  refine (amt1_is n E _ hE).mono ?_
  rintro e w1 ⟨rfl, rfl⟩
  go_wp2
  go_ret
  exact ⟨rfl, rfl⟩
def NumA (E : Int) (w : World) (e : Ending) (w' : World) : Prop := ∃ n : Int, e = .returned (.tuple #[.int .i64 n, .int .i64 E]) ∧ w = w'
theorem numInt_nil (A : Option Addr) (cap c : Nat) (w : World) :
    Calls Tryz.prog 109 #[.slice A 0 cap, .func (.func 110) #[] #[.pointer (some ⟨c, 0, none⟩)]] w (NumA 0 w) := by
  go_enter Tryz.func109, Tryz.ntmps109
  go_wp2
  go_loop [11] (fun i => i = .int .i64 0) (fun i => 1)
  case atStart => rfl
  case round =>
    subst hrel
    go_wp2
    go_ret2
    exact ⟨0, rfl, rfl⟩
set_option maxRecDepth 100000 in
set_option maxHeartbeats 1000000 in
theorem numInt_any (L : List Int) (b o cap n c : Nat) (w : World) (hn : Hid (n = L.length)) (hl : n ≤ 1000000) (hs : Hid (SlRows inV 1 w (some ⟨b, o, none⟩) L)) (hc : w.cell? ⟨c, 0, none⟩ = some (.func (.func 94) #[] #[])) (E : Int) (hE : Hid ((if amAll L = true then 0 else 2) = E)) :
    Calls Tryz.prog 109 #[.slice (some ⟨b, o, none⟩) n cap, .func (.func 110) #[] #[.pointer (some ⟨c, 0, none⟩)]] w (NumA E w) := by
  go_enter Tryz.func109, Tryz.ntmps109
  go_wp2
  go_loop [11] (fun i => ∃ k : Nat, k ≤ n ∧ i = .int .i64 k ∧ Hid (∀ j (hj : j < L.length), j < k → inB L[j] 0 1000000000 = true)) (fun i => n - (intOf i).toNat)
  case atStart => exact ⟨0, by omega, rfl, Lib.hid fun j hj h => by omega⟩
  case round =>
    obtain ⟨k, hk, rfl, hz⟩ := hrel
    by_cases hkn : k < n
    · have hks : k < L.length := by have := hn.out; omega
      have kn : (k : Int) < (n : Int) := by omega
      have k0 : ¬ (k : Int) < 0 := by omega
      obtain ⟨x, hx⟩ : ∃ x, Hid (L[k] = x) := ⟨_, Lib.hid rfl⟩
      have hcell := sl_intA hs.out hks hx.out
      cases hb : inB x 0 1000000000 with
      | true =>
        have hz2 : Hid (∀ j (hj : j < L.length), j < k + 1 → inB L[j] 0 1000000000 = true) := Lib.hid fun j hj h => by
          by_cases e : j = k
          · subst e; rw [hx.out]; exact hb
          · exact hz.out j hj (by omega)
        have HF : Hid (rngE x 0 1000000000 = 0) := Lib.hid (rngE_t hb)
        clear hz hb
        go_wp2_with fail
        refine (amt2_is _ x 0 c _ hc HF).mono ?_
        rintro e w1 ⟨rfl, rfl⟩
        go_wp2
        go_round
        case rel => exact ⟨k + 1, by omega, by go_num, hz2⟩
        case measure => simp [intOf]; omega
      | false =>
        have hr : Hid (E = 2) := Lib.hid (by rw [← hE.out, amAll_f hks (by rw [hx.out]; exact hb)]; rfl)
        have HF : Hid (rngE x 0 1000000000 = 2) := Lib.hid (by unfold rngE; rw [hb]; rfl)
        clear hz hb hE
        go_wp2_with fail
        refine (amt2_is _ x 2 c _ hc HF).mono ?_
        rintro e w1 ⟨rfl, rfl⟩
        go_wp2
        go_ret2
        exact ⟨(k : Int), by rw [hr.out]; rfl, rfl⟩
    · have kn : ¬ (k : Int) < (n : Int) := by omega
      have hr : Hid (E = 0) := Lib.hid (by
        rw [← hE.out, amAll_t (fun j hj => hz.out j hj (by have := hn.out; omega))]; rfl)
      clear hz hE
      go_wp2
      go_ret2
      exact ⟨0, by rw [hr.out]; rfl, rfl⟩
theorem eachInt_any (L : List Int) (C : Option Addr) (n cap : Nat) (E : Int) (w : World) (hn : Hid (n = L.length)) (hl : n ≤ 1000000) (hs : Hid (SlRows inV 1 w C L)) (hE : Hid ((if amAll L = true then 0 else 2) = E)) :
    Calls Tryz.prog 93 #[.slice C n cap, .func (.func 94) #[] #[]] w fun e w' => e = .returned (.int .i64 E) ∧ Below w.heap.size w w' := by
  rcases hs.out with h | ⟨b, o, rfl, _, _⟩
  · obtain rfl : n = 0 := by rw [hn.out, h]; rfl
    obtain rfl : E = 0 := by rw [← hE.out, h]; rfl
    go_enter Tryz.func93, Tryz.ntmps93
    go_wp2_with fail
    refine (numInt_nil C cap w.heap.size _).mono ?_
    rintro e w1 ⟨i, rfl, rfl⟩
    go_wp2
    go_ret
    exact ⟨rfl, (by (repeat (first | (with_reducible refine Below.drew ?_) | (with_reducible refine below_drewN ?_ _) | (with_reducible refine Below.alloc ?_ (by first | omega | (simp; done) | (simp; omega) | (simp at *; omega)) _) | (with_reducible refine Below.setCell ?_ (by first | omega | (simp; done) | (simp; omega) | (simp at *; omega)) _) | (with_reducible exact Below.refl _ _) | (with_reducible assumption) | (with_reducible refine Below.trans ?_ (Below.mono (by assumption) (by first | omega | (simp; done) | (simp; omega) | (simp at *; omega)))))))⟩
  · have hs2 : Hid (SlRows inV 1 (w.alloc (.cells #[.func (.func 94) #[] #[]] 100)) (some ⟨b, o, none⟩) L) := Lib.hid (hs.out.below ((Below.refl w.heap.size w).alloc (Nat.le_refl _) _))
    clear hs
    go_enter Tryz.func93, Tryz.ntmps93
    go_wp2_with fail
    refine (numInt_any L b o cap n w.heap.size _ hn hl hs2 (by simp [go_sem]) E hE).mono ?_
    rintro e w1 ⟨i, rfl, rfl⟩
    go_wp2
    go_ret
    exact ⟨rfl, (by (repeat (first | (with_reducible refine Below.drew ?_) | (with_reducible refine below_drewN ?_ _) | (with_reducible refine Below.alloc ?_ (by first | omega | (simp; done) | (simp; omega) | (simp at *; omega)) _) | (with_reducible refine Below.setCell ?_ (by first | omega | (simp; done) | (simp; omega) | (simp at *; omega)) _) | (with_reducible exact Below.refl _ _) | (with_reducible assumption) | (with_reducible refine Below.trans ?_ (Below.mono (by assumption) (by first | omega | (simp; done) | (simp; omega) | (simp at *; omega)))))))⟩
theorem checkAmt_x (a0 : ByteArray) (a1 : Int) (a2 : Option Addr) (n2 c2 : Nat) (a3 : Option Addr) (n3 c3 : Nat) (a4 : Option Addr) (n4 c4 : Nat) (a5 : Int) (L : List Int) (C : Option Addr) (an cc : Nat) (E : Int) (w : World) (hn : Hid (an = L.length)) (hl : an ≤ 1000000) (hs : Hid (SlRows inV 1 w C L)) (hE : Hid (amE L n2 = E)) :
    Calls Tryz.prog 66 #[.agg #[.string a0, .int .i64 a1, .slice a2 n2 c2, .slice a3 n3 c3, .slice a4 n4 c4, .int .i64 a5], .slice C an cc] w fun e w' => e = .returned (.int .i64 E) ∧ Below w.heap.size w w' := by
  by_cases h : an = n2
  · have hE2 : Hid ((if amAll L = true then 0 else 2) = E) := Lib.hid (by rw [← hE.out]; unfold amE; rw [if_pos (c := L.length = n2) (by rw [← hn.out]; exact h)])
    have h1 : ((an : Int) != (n2 : Int)) = false := by simp [h]
    have h2 : (an != n2) = false := by simp [h]
    have HH := Lib.hid h
    clear h hE
    go_enter Tryz.func66, Tryz.ntmps66
    go_wp2_with fail
    refine (eachInt_any L C an cc E _ hn hl (Lib.hid (hs.out.below (by (repeat (first | (with_reducible refine Below.drew ?_) | (with_reducible refine below_drewN ?_ _) | (with_reducible refine Below.alloc ?_ (by first | omega | (simp; done) | (simp; omega) | (simp at *; omega)) _) | (with_reducible refine Below.setCell ?_ (by first | omega | (simp; done) | (simp; omega) | (simp at *; omega)) _) | (with_reducible exact Below.refl _ _) | (with_reducible assumption) | (with_reducible refine Below.trans ?_ (Below.mono (by assumption) (by first | omega | (simp; done) | (simp; omega) | (simp at *; omega))))))))) hE2).mono ?_
    rintro e w1 ⟨rfl, hb1⟩
    have hB1 : Below w.heap.size w w1 := ((Below.refl w.heap.size w).alloc (Nat.le_refl _) _).trans (hb1.mono (by simp))
    go_wp2
    go_ret
    exact ⟨rfl, hB1⟩
  · have hr : Hid (10 = E) := Lib.hid (by rw [← hE.out]; unfold amE; rw [if_neg (c := L.length = n2) (by rw [← hn.out]; exact h)])
    have h0 : ¬ (an : Int) = (n2 : Int) := by omega
    have h1 : ((an : Int) != (n2 : Int)) = true := by simpa using h0
    have h2 : (an != n2) = true := by simpa using h
    clear hE
    go_enter Tryz.func66, Tryz.ntmps66
    go_wp2
    go_ret
    exact ⟨ret_int hr.out, (by (repeat (first | (with_reducible refine Below.drew ?_) | (with_reducible refine below_drewN ?_ _) | (with_reducible refine Below.alloc ?_ (by first | omega | (simp; done) | (simp; omega) | (simp at *; omega)) _) | (with_reducible refine Below.setCell ?_ (by first | omega | (simp; done) | (simp; omega) | (simp at *; omega)) _) | (with_reducible exact Below.refl _ _) | (with_reducible assumption) | (with_reducible refine Below.trans ?_ (Below.mono (by assumption) (by first | omega | (simp; done) | (simp; omega) | (simp at *; omega)))))))⟩
end Go.Proofs.YtijdphlejokijaaGreat
