import Derived.Test.YtojaompfffpofaaGreatZCSGo
import Derived.Outline
namespace Go.Proofs.YtojaompfffpofaaGreat
open Go.ChangeShapes Go.WideShapes Go.ChangeAt Go.RowKit
set_option linter.unusedVariables false
set_option linter.unusedSimpArgs false
attribute [local go_sem ↓] Go.wp_at_zero Go.wp_at_succ
def trZ (n : Nat) : Array Value := (Array.range (n * 2)).map fun i => (#[Value.slice none 0 0, .int .i64 0] : Array Value)[i % 2]!
theorem trZ_at {n k : Nat} (hk : k < n) : (trZ n)[k * 2]? = some (.slice none 0 0) ∧ (trZ n)[k * 2 + 1]? = some (.int .i64 0) := by
  have h1 : k * 2 < n * 2 := by omega
  have h2 : k * 2 + 1 < n * 2 := by omega
  have e1 : k * 2 % 2 = 0 := by omega
  have e2 : (k * 2 + 1) % 2 = 1 := by omega
  unfold trZ
  constructor
  · simp [h1, e1]
  · simp [h2, e2]
theorem mkTr {n : Nat} (h1 : 1 ≤ n) (h12 : n ≤ 12) (w : World) : (Instr.makeSlice 137 (.int .i64 n) (.int .i64 n)).run Tryz.prog w = .ok (.slice (some ⟨w.heap.size, 0, none⟩) n n) (w.alloc (.cells (trZ n) 136)) := by
  rcases (show n = 1 ∨ n = 2 ∨ n = 3 ∨ n = 4 ∨ n = 5 ∨ n = 6 ∨ n = 7 ∨ n = 8 ∨ n = 9 ∨ n = 10 ∨ n = 11 ∨ n = 12 by omega) with rfl | rfl | rfl | rfl | rfl | rfl | rfl | rfl | rfl | rfl | rfl | rfl <;> kernel_rfl
/-- The ways at the start. -/
def gZero (n f : Nat) : List Tp := (List.replicate n (⟨[], 0⟩ : Tp)).set f ⟨[(f : Int)], 0⟩
theorem gZero_len (n f : Nat) : (gZero n f).length = n := by simp [gZero]
theorem rep_getD (n k : Nat) : (List.replicate n (⟨[], 0⟩ : Tp)).getD k default = ⟨[], 0⟩ := by
  rw [List.getD_eq_getElem?_getD, List.getElem?_replicate]; split <;> rfl
theorem gZero_B (n f : Nat) (hf : f < n) : TpB 1 (gZero n f) := by
  intro k
  unfold gZero
  by_cases e : f = k
  · subst e; rw [getD_set_eq (by simpa using hf)]; simp
  · rw [getD_set_ne e, rep_getD]; simp
theorem trZ_size (n : Nat) : (trZ n).size = n * 2 := by simp [trZ]
theorem gZero_at {w : World} {tb N n f rb : Nat} (hf : f < n) (hlt : tb < w.heap.size) (hfr : ∀ j, w.frozen? ⟨tb, j, none⟩ = false) (hz : ∀ i, w.cell? ⟨tb, i, none⟩ = ((trZ n).setIfInBounds (f * 2) (.slice (some ⟨rb, 0, none⟩) 1 1))[i]?) (hN : N ≤ rb) (hrt : rb ≠ tb) (hrb : rb < w.heap.size) (hr : w.cell? ⟨rb, 0, none⟩ = some (.int .i64 f)) : TrAt w tb N (gZero n f) := by
  refine ⟨fun k hk => ?_, hlt, hfr⟩
  have hk' : k < n := by simpa [gZero] using hk
  obtain ⟨z1, z2⟩ := trZ_at hk'
  refine ⟨?_, ?_⟩
  · rw [hz, Array.getElem?_setIfInBounds_ne (by omega), z2]
    unfold gZero
    by_cases e : f = k
    · subst e; rw [getD_set_eq (by simpa using hf)]
    · rw [getD_set_ne e, rep_getD]
  · unfold gZero
    by_cases e : f = k
    · subst e
      rw [getD_set_eq (by simpa using hf)]
      refine Or.inr ⟨by simp, rb, 1, ?_, hN, hrt, hrb, ?_, by simp⟩
      · rw [hz, Array.getElem?_setIfInBounds_self_of_lt (by rw [trZ_size]; omega)]; rfl
      intro j hj i hi
      have : j = 0 := by simpa using hj
      subst this
      have : i = 0 := by omega
      subst this
      exact hr
    · rw [getD_set_ne e, rep_getD]
      exact Or.inl ⟨rfl, by rw [hz, Array.getElem?_setIfInBounds_ne (by omega)]; exact z1⟩
theorem rows_of {w : World} {c o i n : Nat} {M : List (List Int)} (hl : (M.getD i []).length = n) (h : ∀ j, j < n → w.cell? ⟨c, o + j, none⟩ = some (.int .i64 (mAt M i j))) : RowsAt intV 1 w c o (M.getD i []) := by
  intro k hk q hq
  have : q = 0 := by omega
  subst this
  have := h k (by rw [← hl]; exact hk)
  rw [Nat.mul_one, Nat.add_zero, this]
  unfold mAt
  rw [getD_at hk]
  rfl
theorem row_bnd {Pl : List ByteArray} {M : List (List Int)} (h : ChOk Pl M) {i : Nat} (hi : i < Pl.length) : ∀ j, -1 ≤ (M.getD i []).getD j 0 ∧ (M.getD i []).getD j 0 ≤ 10000 := by
  intro j
  by_cases hj : j < Pl.length
  · exact h.bnd i j hi hj
  · rw [List.getD_eq_getElem?_getD, List.getElem?_eq_none (by rw [h.row i hi]; omega)]; exact ⟨by decide, by decide⟩
/-- What tripsFrom returns. -/
def TrpP (T : List Tp) (n : Nat) (w : World) (e : Ending) (w' : World) : Prop := ∃ tb, e = .returned (.slice (some ⟨tb, 0, none⟩) n n) ∧ TrAt w' tb w.heap.size T ∧ w.heap.size ≤ tb ∧ Below w.heap.size w w'
theorem gAll_B {T : List Tp} {Pl : List ByteArray} {M : List (List Int)} {c : Nat} (hM : ChOk Pl M) (h : TpB c T) : ∀ k, k ≤ Pl.length → TpB (c + 12 * k) (gAll T M k)
  | 0, _ => h
  | k + 1, hk => by
    have h1 := (gAll_B hM h k (by omega)).on (b := k) (row_bnd hM (show k < Pl.length by omega))
    have h2 := hM.row k (by omega)
    have h3 := hM.n12
    exact h1.up (by omega)
theorem gRnd_B {T : List Tp} {Pl : List ByteArray} {M : List (List Int)} {c n : Nat} (hM : ChOk Pl M) (hn : n = Pl.length) (h : TpB c T) : ∀ r, TpB (c + 144 * r) (gRnd T M n r)
  | 0 => h
  | r + 1 => by
    have h1 := gAll_B hM (gRnd_B hM hn h r) n (by omega)
    have h3 := hM.n12
    exact h1.up (by omega)
/-- Where the loops of tripsFrom stand. -/
structure TfS (w : World) (A B : Option Addr) (n ca cb : Nat) (T : List Tp) (X : World) : Prop where
  c0 : X.cell? ⟨w.heap.size, 0, none⟩ = some (.slice A n ca)
  c1 : X.cell? ⟨w.heap.size, 1, none⟩ = some (.slice B n cb)
  tr : TrAt X (w.heap.size + 1) w.heap.size T
  be : Below w.heap.size w X
theorem TfS.step {w X X' : World} {A B : Option Addr} {n ca cb : Nat} {T T' : List Tp} (h : TfS w A B n ca cb T X) (ht : TrAt X' (w.heap.size + 1) w.heap.size T') (hb : BelowE (w.heap.size + 1) X.heap.size X X') : TfS w A B n ca cb T' X' := by
  have z := h.be.size
  have z2 := h.tr.lt
  exact ⟨(hb.cell (by omega) (by omega)).trans h.c0, (hb.cell (by omega) (by omega)).trans h.c1, ht, h.be.trans ((hb.mono z).below (by omega))⟩
set_option maxRecDepth 100000 in
set_option maxHeartbeats 4000000 in
theorem tripsFrom_is (A B : Option Addr) (n ca cb f : Nat) (Pl : List ByteArray) (M : List (List Int)) (w : World) (hl0 : 0 < n) (hl : n ≤ 12) (HC : Hid (ChSl w A B n Pl M)) (hf : f < n) :
    Calls Tryz.prog 89 #[.agg #[.slice A n ca, .slice B n cb], .int .i64 f] w (TrpP (gRnd (gZero n f) M n n) n w) := by
  have fn : (f : Int) < (n : Int) := by omega
  have hmk := fun (w : World) => mkTr (n := n) (by omega) hl w
  obtain ⟨zz, hzz⟩ : ∃ zz, Hid (trZ n = zz) := ⟨_, Lib.hid rfl⟩
  rw [hzz.out] at hmk
  have e0 : (zz)[f * 2]? = some (.slice none 0 0) := by rw [← hzz.out]; exact (trZ_at hf).1
  have HBD := Lib.hid (gZero_B n f hf)
  go_enter Tryz.func89, Tryz.ntmps89
  go_upto_region 3 with (fail)
  refine wp_world (TfS w A B n ca cb (gZero n f)) ⟨by simp [go_sem, World.cell?_alloc_past], by simp [go_sem, World.cell?_alloc_past], gZero_at (rb := w.heap.size + 1 + 1) hf (by simp) (by intro j; simp [go_sem]) ?_ (by omega) (by omega) (by simp) (by simp [go_sem]), (by (repeat (first | (with_reducible refine Below.drew ?_) | (with_reducible refine below_drewN ?_ _) | (with_reducible refine Below.alloc ?_ (by first | omega | (simp; done) | (simp; omega) | (simp at *; omega)) _) | (with_reducible refine Below.setCell ?_ (by first | omega | (simp; done) | (simp; omega) | (simp at *; omega)) _) | (with_reducible exact Below.refl _ _) | (with_reducible assumption) | (with_reducible refine Below.trans ?_ (Below.mono (by assumption) (by first | omega | (simp; done) | (simp; omega) | (simp at *; omega)))))))⟩ (fun u hu => ?_)
  · intro i
    rw [hzz.out, World.cell?_alloc_past _ _ _ (by simp)]
    simp
  have HU := Lib.hid hu
  have u0 := hu.c0
  clear hu hmk e0
  go_wp2
  go_loopw [20] (fun i wr => ∃ r : Nat, r ≤ n ∧ i = .int .i64 r ∧ Hid (TfS w A B n ca cb (gRnd (gZero n f) M n r) wr)) (fun i _ => n - (intOf i).toNat)
  case atStart => exact ⟨0, by omega, rfl, HU⟩
  case round =>
    clear HU u0
    obtain ⟨r, hr, rfl, HU⟩ := hrel
    by_cases hrn : r < n
    · have rn : (r : Int) < (n : Int) := by omega
      have hbd := gRnd_B HC.out.ok HC.out.hn HBD.out r
      have HB1 := Lib.hid hbd
      obtain ⟨T1, hT1⟩ : ∃ T1, Hid (gRnd (gZero n f) M n r = T1) := ⟨_, Lib.hid rfl⟩
      rw [hT1.out] at HU HB1
      have HLT : Hid (T1.length = n) := Lib.hid (by rw [← hT1.out, gRnd_len, gZero_len])
      have HNX : Hid (gRnd (gZero n f) M n (r + 1) = gAll T1 M n) := Lib.hid (by rw [gRnd, hT1.out])
      clear hbd
      go_wp2
      go_loopw [24] (fun i wr => ∃ q : Nat, q ≤ n ∧ i = .int .i64 q ∧ Hid (TfS w A B n ca cb (gAll T1 M q) wr)) (fun i _ => n - (intOf i).toNat)
      case atStart => exact ⟨0, by omega, rfl, HU⟩
      case round =>
        clear HU
        obtain ⟨q, hq, rfl, HU⟩ := hrel
        by_cases hqn : q < n
        · have qn : (q : Int) < (n : Int) := by omega
          obtain ⟨b, off, C, cap, hBe, hb, h1, hsp, hcb, hj⟩ := HC.out.at hqn
          obtain ⟨cbk, cof, csp⟩ := C
          dsimp only at hsp hcb hj
          subst hsp
          have hn := HC.out.hn
          have hbe := HU.out.be
          have zs := hbe.size
          have d1 := (hbe.cell (p := ⟨b, off + q, none⟩) hb).trans h1
          have g1 := HU.out.c1
          rw [hBe] at g1
          have hrl : (M.getD q []).length = n := by rw [HC.out.ok.row q (by omega)]; exact hn.symm
          have hrow : RowsAt intV 1 wr cbk cof (M.getD q []) := rows_of hrl fun j hj2 => (hbe.cell (p := ⟨cbk, cof + j, none⟩) hcb).trans (hj j hj2)
          have hb12 := (gAll_B HC.out.ok HB1.out q (by omega))
          have hcall := goOn_is (gAll T1 M q) (M.getD q []) (w.heap.size + 1) q n n w.heap.size _ cbk cof cap wr (Lib.hid (by rw [gAll_len]; exact HLT.out)) (Lib.hid hrl) hl hqn (Lib.hid HU.out.tr) (Lib.hid hb12) (by omega) (Lib.hid hrow) (by omega) (by omega) (Lib.hid (row_bnd HC.out.ok (by omega))) zs
          have HCALL := Lib.hid hcall
          have HBE := Lib.hid hbe
          clear hj hrow hrl hb12 hcall h1 hn hBe hbe
          go_wp2_with fail
          refine HCALL.out.mono ?_
          rintro e w1 ⟨rfl, htr, hbe⟩
          have HU2 : Hid (TfS w A B n ca cb (gAll T1 M (q + 1)) w1) := Lib.hid (HU.out.step htr hbe)
          clear htr hbe
          go_wp2
          go_roundw
          case rel => exact ⟨q + 1, by omega, by go_num, HU2⟩
          case measure => (simp [intOf]) <;> omega
        · have HU2 : Hid (TfS w A B n ca cb (gRnd (gZero n f) M n (r + 1)) wr) := Lib.hid (by
            have e : q = n := by omega
            have h := HU.out
            rw [e] at h
            rw [HNX.out]; exact h)
          go_wp2
          go_roundw
          case rel => exact ⟨r + 1, by omega, by go_num, HU2⟩
          case measure => (simp [intOf]) <;> omega
    · have hrr : r = n := by omega
      have HF : Hid (TfS w A B n ca cb (gRnd (gZero n f) M n n) wr) := Lib.hid (by
        have h := HU.out
        rw [hrr] at h
        exact h)
      clear hrr
      go_wp2
      go_ret
      exact ⟨w.heap.size + 1, rfl, HF.out.tr, by omega, HF.out.be⟩
def plcE (n : Nat) (p : Int) : Int := if inB p 0 ((n : Int) - 1) = true then 0 else 6
theorem plcE_in {n : Nat} {p : Int} (h1 : 0 ≤ p) (h2 : p < n) : plcE n p = 0 := by unfold plcE; rw [if_pos (inB_true h1 (by omega))]
theorem place_is (A B : Option Addr) (n ca cb : Nat) (p E : Int) (w : World) (hl : n ≤ 1000000) (hE : Hid (plcE n p = E)) :
    Calls Tryz.prog 88 #[.agg #[.slice A n ca, .slice B n cb], .int .i64 p] w fun e w' => e = .returned (.int .i64 E) ∧ Below w.heap.size w w' := by
  have w1 : IntKind.i64.wrap ((n : Int) - 1) = (n : Int) - 1 := IntWalk.i64_in _ (by omega)
  have he := hE.out
  unfold plcE at he
  clear hE
  rcases inB_cases p 0 ((n : Int) - 1) with h | h
  · have hr : Hid (E = 0) := Lib.hid (by rw [if_pos h] at he; exact he.symm)
    clear he
    go_enter Tryz.func88, Tryz.ntmps88
    go_wp2_with ((go_at_call 126; ((with_reducible refine (cWithin_any _ _ _ _).mono ?_)); rintro e w' ⟨rfl, rfl⟩))
    go_ret
    exact ⟨ret_int hr.out.symm, (by (repeat (first | (with_reducible refine Below.drew ?_) | (with_reducible refine below_drewN ?_ _) | (with_reducible refine Below.alloc ?_ (by first | omega | (simp; done) | (simp; omega) | (simp at *; omega)) _) | (with_reducible refine Below.setCell ?_ (by first | omega | (simp; done) | (simp; omega) | (simp at *; omega)) _) | (with_reducible exact Below.refl _ _) | (with_reducible assumption) | (with_reducible refine Below.trans ?_ (Below.mono (by assumption) (by first | omega | (simp; done) | (simp; omega) | (simp at *; omega)))))))⟩
  · have hr : Hid (E = 6) := Lib.hid (by rw [if_neg (by rw [h]; exact Bool.false_ne_true)] at he; exact he.symm)
    clear he
    go_enter Tryz.func88, Tryz.ntmps88
    go_wp2_with ((go_at_call 126; ((with_reducible refine (cWithin_any _ _ _ _).mono ?_)); rintro e w' ⟨rfl, rfl⟩))
    go_ret
    exact ⟨ret_int hr.out.symm, (by (repeat (first | (with_reducible refine Below.drew ?_) | (with_reducible refine below_drewN ?_ _) | (with_reducible refine Below.alloc ?_ (by first | omega | (simp; done) | (simp; omega) | (simp at *; omega)) _) | (with_reducible refine Below.setCell ?_ (by first | omega | (simp; done) | (simp; omega) | (simp at *; omega)) _) | (with_reducible exact Below.refl _ _) | (with_reducible assumption) | (with_reducible refine Below.trans ?_ (Below.mono (by assumption) (by first | omega | (simp; done) | (simp; omega) | (simp at *; omega)))))))⟩
/-- A way that was found. -/
def WayP (P : List Int) (l : Nat) (mi : Int) (w : World) (e : Ending) (w' : World) : Prop := ∃ g cap, e = .returned (.tuple #[.slice (some ⟨g, 0, none⟩) l cap, .int .i64 mi, .int .i64 0]) ∧ RowsAt intV 1 w' g 0 P ∧ g < w'.heap.size ∧ Below w.heap.size w w' ∧ l ≤ cap
set_option maxRecDepth 100000 in
set_option maxHeartbeats 4000000 in
theorem Way_ok (A B : Option Addr) (n ca cb fr to_ : Nat) (Pl : List ByteArray) (M : List (List Int)) (P : List Int) (ll : Nat) (mi : Int) (w : World) (hl0 : 0 < n) (hl : n ≤ 12) (HC : Hid (ChSl w A B n Pl M)) (hf : fr < n) (ht : to_ < n) (hP : Hid (((gRnd (gZero n fr) M n n).getD to_ default).ps = P)) (hmi : Hid (((gRnd (gZero n fr) M n n).getD to_ default).mi = mi)) (hne : Hid (P ≠ [])) (hll : Hid (P.length = ll)) :
    Calls Tryz.prog 43 #[.agg #[.slice A n ca, .slice B n cb], .int .i64 fr, .int .i64 to_] w (WayP P ll mi w) := by
  have tn : (to_ : Int) < (n : Int) := by omega
  have E1 := eqI1
  have hB0 : Below w.heap.size w (w.alloc (.cells #[.slice A n ca, .slice B n cb] 78)) := (Below.refl _ _).alloc (Nat.le_refl _) _
  have HC0 := Lib.hid (HC.out.below hB0)
  clear hB0
  go_enter Tryz.func43, Tryz.ntmps43
  go_wp2_with fail
  refine (CheckChart_ok A B n ca cb Pl M _ hl0 hl HC0).mono ?_
  rintro e y1 ⟨rfl, hb1⟩
  have hB1 : Below w.heap.size w y1 := (by (repeat (first | (with_reducible refine Below.drew ?_) | (with_reducible refine below_drewN ?_ _) | (with_reducible refine Below.alloc ?_ (by first | omega | (simp; done) | (simp; omega) | (simp at *; omega)) _) | (with_reducible refine Below.setCell ?_ (by first | omega | (simp; done) | (simp; omega) | (simp at *; omega)) _) | (with_reducible exact Below.refl _ _) | (with_reducible assumption) | (with_reducible refine Below.trans ?_ (Below.mono (by assumption) (by first | omega | (simp; done) | (simp; omega) | (simp at *; omega)))))))
  have z1 := hb1.size
  try simp at z1
  have q1_0 : y1.cell? ⟨w.heap.size, 0, none⟩ = some (.slice A n ca) := by rw [(bcell hb1).1 _ _ (by simp)]; simp [go_sem]
  have q1_1 : y1.cell? ⟨w.heap.size, 1, none⟩ = some (.slice B n cb) := by rw [(bcell hb1).1 _ _ (by simp)]; simp [go_sem]
  have o1 : w.heap.size < y1.heap.size := by omega
  have m1 : y1.heap.size ≠ w.heap.size := by omega
  clear hb1
  go_upto_region 4 with (fail)
  refine wp_region_held_drew (S := (fun w' => w'.cell? ⟨w.heap.size, 0, none⟩ = some (.slice A n ca) ∧ w'.cell? ⟨w.heap.size, 1, none⟩ = some (.slice B n cb))) (by kernel_rfl) (by simp [go_sem, World.cell?_alloc_past, *]) (fun hHeld => ?_)
  refine tkH 0 ⟨some 17, _, _, _, _, _⟩ ?_ rfl ?_ (by assumption) ?_
  rotate_left
  · (intro w hSw; (try dsimp only at hSw); go_simp; all_goals with_reducible rfl)
  try simp only [Act.put, sA, sB, sC]
  refine tkH 1 ⟨some 18, _, _, _, _, _⟩ ?_ rfl ?_ (by assumption) ?_
  rotate_left
  · (intro w hSw; (try dsimp only at hSw); go_simp; all_goals with_reducible rfl)
  try simp only [Act.put, sA, sB, sC]
  refine tkH 3 ⟨some 20, _, _, _, _, _⟩ ?_ rfl ?_ (by assumption) ?_
  rotate_left
  · (intro w hSw; (try dsimp only at hSw); go_simp; all_goals with_reducible rfl)
  try simp only [Act.put, sA, sB, sC]
  refine tkH 4 ⟨some 21, _, _, _, _, _⟩ ?_ rfl ?_ (by assumption) ?_
  rotate_left
  · (intro w hSw; (try dsimp only at hSw); go_simp; all_goals with_reducible rfl)
  try simp only [Act.put, sA, sB, sC]
  refine wpAnyH_ready (rs := [2]) (by kernel_rfl) (by simp) ?_
  refine AllReadyH.cons rfl (fun K hK => ?_) AllReadyH.nil
  go_simp
  refine (place_is A B n ca cb fr 0 _ (by omega) (Lib.hid (plcE_in (by omega) (by omega)))).mono ?_
  rintro e y2 ⟨rfl, hb2⟩
  have hB2 : Below w.heap.size w y2 := (by (repeat (first | (with_reducible refine Below.drew ?_) | (with_reducible refine below_drewN ?_ _) | (with_reducible refine Below.alloc ?_ (by first | omega | (simp; done) | (simp; omega) | (simp at *; omega)) _) | (with_reducible refine Below.setCell ?_ (by first | omega | (simp; done) | (simp; omega) | (simp at *; omega)) _) | (with_reducible exact Below.refl _ _) | (with_reducible assumption) | (with_reducible refine Below.trans ?_ (Below.mono (by assumption) (by first | omega | (simp; done) | (simp; omega) | (simp at *; omega)))))))
  have z2 := hb2.size
  try simp at z2
  have q2_0 : y2.cell? ⟨w.heap.size, 0, none⟩ = some (.slice A n ca) := by rw [(bcell hb2).1 _ _ (by first | (simp; done) | (simp; omega) | omega)]; simp [go_sem, *]
  have q2_1 : y2.cell? ⟨w.heap.size, 1, none⟩ = some (.slice B n cb) := by rw [(bcell hb2).1 _ _ (by first | (simp; done) | (simp; omega) | omega)]; simp [go_sem, *]
  have o2 : w.heap.size < y2.heap.size := by omega
  have m2 : y2.heap.size ≠ w.heap.size := by omega
  clear hb2 q1_0 q1_1 o1 m1
  go_wp2_with fail
  refine hK.out _ _ (by simp [go_sem, World.cell?_alloc_past, *]) (fun hHeld => ?_)
  clear hK K
  try simp only [Act.put, sA, sB, sC]
  refine wpAnyH_ready (rs := [5]) (by kernel_rfl) (by simp) ?_
  refine AllReadyH.cons rfl (fun K hK => ?_) AllReadyH.nil
  go_simp
  refine (place_is A B n ca cb to_ 0 _ (by omega) (Lib.hid (plcE_in (by omega) (by omega)))).mono ?_
  rintro e y3 ⟨rfl, hb3⟩
  have hB3 : Below w.heap.size w y3 := (by (repeat (first | (with_reducible refine Below.drew ?_) | (with_reducible refine below_drewN ?_ _) | (with_reducible refine Below.alloc ?_ (by first | omega | (simp; done) | (simp; omega) | (simp at *; omega)) _) | (with_reducible refine Below.setCell ?_ (by first | omega | (simp; done) | (simp; omega) | (simp at *; omega)) _) | (with_reducible exact Below.refl _ _) | (with_reducible assumption) | (with_reducible refine Below.trans ?_ (Below.mono (by assumption) (by first | omega | (simp; done) | (simp; omega) | (simp at *; omega)))))))
  have z3 := hb3.size
  try simp at z3
  have q3_0 : y3.cell? ⟨w.heap.size, 0, none⟩ = some (.slice A n ca) := by rw [(bcell hb3).1 _ _ (by first | (simp; done) | (simp; omega) | omega)]; simp [go_sem, *]
  have q3_1 : y3.cell? ⟨w.heap.size, 1, none⟩ = some (.slice B n cb) := by rw [(bcell hb3).1 _ _ (by first | (simp; done) | (simp; omega) | omega)]; simp [go_sem, *]
  have o3 : w.heap.size < y3.heap.size := by omega
  have m3 : y3.heap.size ≠ w.heap.size := by omega
  clear hb3 q2_0 q2_1 o2 m2
  go_wp2_with fail
  refine hK.out _ _ (by simp [go_sem, World.cell?_alloc_past, *]) (fun hHeld => ?_)
  clear hK K
  try simp only [Act.put, sA, sB, sC]
  refine wpAnyH_ready (rs := [6]) (by kernel_rfl) (by simp) ?_
  refine AllReadyH.cons rfl (fun K hK => ?_) AllReadyH.nil
  go_simp
  go_wp2_with fail
  refine hK.out _ _ (by simp [go_sem, World.cell?_alloc_past, *]) (fun hHeld => ?_)
  clear hK K
  try simp only [Act.put, sA, sB, sC]
  refine wpAnyH_ready (rs := [7]) (by kernel_rfl) (by simp) ?_
  refine AllReadyH.cons rfl (fun K hK => ?_) AllReadyH.nil
  go_simp
  refine (cF2x 0 0 0 _ _ (Lib.hid rfl) (by simp [go_sem]) (by simp [go_sem])).mono ?_
  rintro e w' ⟨rfl, rfl⟩
  go_wp2_with fail
  refine hK.out _ _ (by simp [go_sem, World.cell?_alloc_past, *]) (fun hHeld => ?_)
  clear hK K
  try simp only [Act.put, sA, sB, sC]
  refine tkH 8 ⟨some 10, _, _, _, _, _⟩ ?_ rfl ?_ (by assumption) ?_
  rotate_left
  · (intro w hSw; (try dsimp only at hSw); go_simp; all_goals with_reducible rfl)
  try simp only [Act.put, sA, sB, sC]
  refine wpAnyH_done (by kernel_rfl) ?_ _
  have HC3 := Lib.hid (HC.out.below hB3)
  go_wp2_with fail
  refine (tripsFrom_is A B n ca cb fr Pl M _ hl0 hl (Lib.hid (HC3.out.below (by (repeat (first | (with_reducible refine Below.drew ?_) | (with_reducible refine below_drewN ?_ _) | (with_reducible refine Below.alloc ?_ (by first | omega | (simp; done) | (simp; omega) | (simp at *; omega)) _) | (with_reducible refine Below.setCell ?_ (by first | omega | (simp; done) | (simp; omega) | (simp at *; omega)) _) | (with_reducible exact Below.refl _ _) | (with_reducible assumption) | (with_reducible refine Below.trans ?_ (Below.mono (by assumption) (by first | omega | (simp; done) | (simp; omega) | (simp at *; omega))))))))) hf).mono ?_
  rintro e v1 ⟨tb, rfl, htr, htb, hb4⟩
  have hBv : Below w.heap.size w v1 := (by (repeat (first | (with_reducible refine Below.drew ?_) | (with_reducible refine below_drewN ?_ _) | (with_reducible refine Below.alloc ?_ (by first | omega | (simp; done) | (simp; omega) | (simp at *; omega)) _) | (with_reducible refine Below.setCell ?_ (by first | omega | (simp; done) | (simp; omega) | (simp at *; omega)) _) | (with_reducible exact Below.refl _ _) | (with_reducible assumption) | (with_reducible refine Below.trans ?_ (Below.mono (by assumption) (by first | omega | (simp; done) | (simp; omega) | (simp at *; omega)))))))
  obtain ⟨r1, r2⟩ := htr.row to_ (by rw [gRnd_len, gZero_len]; exact ht)
  have hlt := htr.lt
  rw [hmi.out] at r1
  rcases r2 with ⟨hn, _⟩ | ⟨_, g, gcap, r2, gN, gt, gl, gR, gC⟩
  · exact absurd (hP.out.symm.trans hn) hne.out
  rw [hP.out, hll.out] at r2
  rw [hP.out] at gR
  rw [hP.out, hll.out] at gC
  have HG := Lib.hid gR
  have HB := Lib.hid hBv
  clear htr hb4 gR hBv q3_0 q3_1
  go_upto_region 10 with (fail)
  refine wp_region_held_drew (S := (fun w' => w'.cell? ⟨v1.heap.size, 0, none⟩ = some (.slice (some ⟨g, 0, none⟩) ll gcap) ∧ w'.cell? ⟨v1.heap.size, 1, none⟩ = some (.int .i64 mi))) (by kernel_rfl) (by simp [go_sem, World.cell?_alloc_past, *]) (fun hHeld => ?_)
  refine tkH 0 ⟨some 37, _, _, _, _, _⟩ ?_ rfl ?_ (by assumption) ?_
  rotate_left
  · (intro w hSw; (try dsimp only at hSw); go_simp; all_goals with_reducible rfl)
  try simp only [Act.put, sA, sB, sC]
  refine tkH 1 ⟨some 38, _, _, _, _, _⟩ ?_ rfl ?_ (by assumption) ?_
  rotate_left
  · (intro w hSw; (try dsimp only at hSw); go_simp; all_goals with_reducible rfl)
  try simp only [Act.put, sA, sB, sC]
  refine tkH 2 ⟨some 39, _, _, _, _, _⟩ ?_ rfl ?_ (by assumption) ?_
  rotate_left
  · (intro w hSw; (try dsimp only at hSw); go_simp; all_goals with_reducible rfl)
  try simp only [Act.put, sA, sB, sC]
  refine tkH 3 ⟨some 40, _, _, _, _, _⟩ ?_ rfl ?_ (by assumption) ?_
  rotate_left
  · (intro w hSw; (try dsimp only at hSw); go_simp; all_goals with_reducible rfl)
  try simp only [Act.put, sA, sB, sC]
  refine tkH 4 ⟨some 6, _, _, _, _, _⟩ ?_ rfl ?_ (by assumption) ?_
  rotate_left
  · (intro w hSw; (try dsimp only at hSw); go_simp; all_goals with_reducible rfl)
  try simp only [Act.put, sA, sB, sC]
  refine tkH 5 ⟨some 7, _, _, _, _, _⟩ ?_ rfl ?_ (by assumption) ?_
  rotate_left
  · (intro w hSw; (try dsimp only at hSw); go_simp; all_goals with_reducible rfl)
  try simp only [Act.put, sA, sB, sC]
  refine tkH 6 ⟨some 8, _, _, _, _, _⟩ ?_ rfl ?_ (by assumption) ?_
  rotate_left
  · (intro w hSw; (try dsimp only at hSw); go_simp; all_goals with_reducible rfl)
  try simp only [Act.put, sA, sB, sC]
  refine wpAnyH_done (by kernel_rfl) ?_ _
  go_wp2
  refine bodyPost_ret (v := .tuple #[.slice (some ⟨g, 0, none⟩) ll gcap, .int .i64 mi, .int .i64 0]) (by simp [results, Tryz.results43, go_sem, *]) rfl ⟨g, gcap, rfl, ?_, ?_, ?_, gC⟩
  · exact HG.out.below (show Below v1.heap.size v1 _ from (by (repeat (first | (with_reducible refine Below.drew ?_) | (with_reducible refine below_drewN ?_ _) | (with_reducible refine Below.alloc ?_ (by first | omega | (simp; done) | (simp; omega) | (simp at *; omega)) _) | (with_reducible refine Below.setCell ?_ (by first | omega | (simp; done) | (simp; omega) | (simp at *; omega)) _) | (with_reducible exact Below.refl _ _) | (with_reducible assumption) | (with_reducible refine Below.trans ?_ (Below.mono (by assumption) (by first | omega | (simp; done) | (simp; omega) | (simp at *; omega)))))))) gl
  · simp; omega
  · exact HB.out.trans (show Below w.heap.size v1 _ from (show Below v1.heap.size v1 _ from (by (repeat (first | (with_reducible refine Below.drew ?_) | (with_reducible refine below_drewN ?_ _) | (with_reducible refine Below.alloc ?_ (by first | omega | (simp; done) | (simp; omega) | (simp at *; omega)) _) | (with_reducible refine Below.setCell ?_ (by first | omega | (simp; done) | (simp; omega) | (simp at *; omega)) _) | (with_reducible exact Below.refl _ _) | (with_reducible assumption) | (with_reducible refine Below.trans ?_ (Below.mono (by assumption) (by first | omega | (simp; done) | (simp; omega) | (simp at *; omega)))))))).mono HB.out.size)
end Go.Proofs.YtojaompfffpofaaGreat
