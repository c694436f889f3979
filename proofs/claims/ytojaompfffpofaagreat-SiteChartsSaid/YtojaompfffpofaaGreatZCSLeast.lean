import Derived.Test.YtojaompfffpofaaGreatZCSWay2
import Derived.Outline
namespace Go.Proofs.YtojaompfffpofaaGreat
open Go.ChangeShapes Go.WideShapes Go.ChangeAt Go.RowKit
set_option linter.unusedVariables false
set_option linter.unusedSimpArgs false
attribute [local go_sem ↓] Go.wp_at_zero Go.wp_at_succ
/-- The least minutes so far, step by step. -/
def bStep (B : List Int) (i k : Nat) (m : Int) : List Int := if B.getD i 0 < 0 ∨ m < 0 then B else if B.getD k 0 < 0 ∨ B.getD i 0 + m < B.getD k 0 then B.set k (B.getD i 0 + m) else B
def bRow (B : List Int) (i : Nat) (R : List Int) : Nat → List Int
  | 0 => B
  | k + 1 => bStep (bRow B i R k) i k (R.getD k 0)
def bAll (B : List Int) (M : List (List Int)) (n : Nat) : Nat → List Int
  | 0 => B
  | i + 1 => bRow (bAll B M n i) i (M.getD i []) n
def bRnd (B : List Int) (M : List (List Int)) (n : Nat) : Nat → List Int
  | 0 => B
  | r + 1 => bAll (bRnd B M n r) M n n
def bZero (n f : Nat) : List Int := (List.replicate n (-1 : Int)).set f 0
theorem bStep_len (B : List Int) (i k : Nat) (m : Int) : (bStep B i k m).length = B.length := by unfold bStep; split; rfl; split <;> simp
theorem bRow_len (B : List Int) (i : Nat) (R : List Int) : ∀ k, (bRow B i R k).length = B.length
  | 0 => rfl
  | k + 1 => by rw [bRow, bStep_len, bRow_len B i R k]
theorem bAll_len (B : List Int) (M : List (List Int)) (n : Nat) : ∀ k, (bAll B M n k).length = B.length
  | 0 => rfl
  | k + 1 => by rw [bAll, bRow_len, bAll_len B M n k]
theorem bRnd_len (B : List Int) (M : List (List Int)) (n : Nat) : ∀ k, (bRnd B M n k).length = B.length
  | 0 => rfl
  | k + 1 => by rw [bRnd, bAll_len, bRnd_len B M n k]
theorem bZero_len (n f : Nat) : (bZero n f).length = n := by simp [bZero]
theorem iset_eq {T : List Int} {t : Nat} {x : Int} (h : t < T.length) : (T.set t x).getD t 0 = x := by
  rw [getD_at (by simpa using h)]; simp
theorem iset_ne {T : List Int} {t k : Nat} {x : Int} (h : t ≠ k) : (T.set t x).getD k 0 = T.getD k 0 := by
  rw [List.getD_eq_getElem?_getD, List.getD_eq_getElem?_getD, List.getElem?_set_ne h]
theorem iset_over {T : List Int} {t k : Nat} {x : Int} (h : T.length ≤ t) : (T.set t x).getD k 0 = T.getD k 0 := by
  rw [List.set_eq_of_length_le h]
/-- Bounds. -/
def BB (c : Nat) (B : List Int) : Prop := ∀ k, -1 ≤ B.getD k 0 ∧ B.getD k 0 ≤ 10000 * (c : Int)
theorem BB.up {c d : Nat} {B : List Int} (h : BB c B) (hd : c ≤ d) : BB d B := fun k => ⟨(h k).1, by have := (h k).2; omega⟩
theorem BB.step {c : Nat} {B : List Int} (h : BB c B) {i k : Nat} {m : Int} (h2 : m ≤ 10000) : BB (c + 1) (bStep B i k m) := by
  unfold bStep
  split
  · exact h.up (by omega)
  · rename_i h0
    split
    · intro q
      by_cases hk : k < B.length
      · by_cases e : k = q
        · subst e; rw [iset_eq hk]
          have := h i
          omega
        · rw [iset_ne e]; exact (h.up (by omega)) q
      · rw [iset_over (by omega)]; exact (h.up (by omega)) q
    · exact h.up (by omega)
theorem BB.row {c : Nat} {B : List Int} (h : BB c B) {i : Nat} {R : List Int} (hR : ∀ j, R.getD j 0 ≤ 10000) : ∀ k, BB (c + k) (bRow B i R k)
  | 0 => h
  | k + 1 => (BB.row h hR k).step (hR k)
theorem BB.all {c n : Nat} {B : List Int} {M : List (List Int)} (h : BB c B) (hn : n ≤ 12) (hM : ∀ i, i < n → ∀ j, (M.getD i []).getD j 0 ≤ 10000) : ∀ k, k ≤ n → BB (c + 12 * k) (bAll B M n k)
  | 0, _ => h
  | k + 1, hk => (BB.row (BB.all h hn hM k (by omega)) (hM k (by omega)) n).up (by omega)
theorem BB.rnd {c n : Nat} {B : List Int} {M : List (List Int)} (h : BB c B) (hn : n ≤ 12) (hM : ∀ i, i < n → ∀ j, (M.getD i []).getD j 0 ≤ 10000) : ∀ r, BB (c + 144 * r) (bRnd B M n r)
  | 0 => h
  | r + 1 => (BB.all (BB.rnd h hn hM r) hn hM n (Nat.le_refl _)).up (by omega)
theorem repI (n k : Nat) (x : Int) (hk : k < n) : (List.replicate n x).getD k 0 = x := by
  rw [getD_at (by simpa using hk)]; simp
theorem BB.zero (n f : Nat) : BB 0 (bZero n f) := by
  intro k
  unfold bZero
  by_cases hf : f < n
  · by_cases e : f = k
    · subst e; rw [iset_eq (by simpa using hf)]; omega
    · rw [iset_ne e]
      by_cases hk : k < n
      · rw [repI n k _ hk]; omega
      · rw [List.getD_eq_getElem?_getD, List.getElem?_eq_none (by simpa using Nat.le_of_not_lt hk)]; decide
  · rw [iset_over (by simpa using Nat.le_of_not_lt hf)]
    by_cases hk : k < n
    · rw [repI n k _ hk]; omega
    · rw [List.getD_eq_getElem?_getD, List.getElem?_eq_none (by simpa using Nat.le_of_not_lt hk)]; decide
/-- What the ways take: -1 where there is none. -/
def tv (p : Tp) : Int := if p.ps = [] then -1 else p.mi
def bv (T : List Tp) : List Int := T.map tv
theorem bv_at {T : List Tp} {k : Nat} (h : k < T.length) : (bv T).getD k 0 = tv (T.getD k default) := by
  rw [getD_at (by simpa [bv] using h), getD_at h]; simp [bv]
theorem bv_set (T : List Tp) (k : Nat) (p : Tp) : bv (T.set k p) = (bv T).set k (tv p) := by unfold bv; rw [List.map_set]
theorem sim_step {T : List Tp} {c b t : Nat} {m : Int} (hB : TpB c T) (hb : b < T.length) (ht : t < T.length) (h1 : -1 ≤ m) (hp : (T.getD b default).ps ≠ []) : bStep (bv T) b t m = bv (gStep T b t m) := by
  have vb : (bv T).getD b 0 = (T.getD b default).mi := by rw [bv_at hb]; unfold tv; rw [if_neg hp]
  have b0 := (hB b).2.1
  have t0 := (hB t).2.1
  unfold bStep gStep
  rw [vb]
  by_cases hm : m = -1
  · rw [if_pos (by omega), if_neg (fun h => (gTake_iff.1 h).1 hm)]
  · rw [if_neg (by omega)]
    have vt : (bv T).getD t 0 = tv (T.getD t default) := bv_at ht
    rw [vt]
    by_cases hn : (T.getD t default).ps = []
    · have e : tv (T.getD t default) = -1 := by unfold tv; rw [if_pos hn]
      rw [e, if_pos (by omega), if_pos (gTake_iff.2 ⟨hm, Or.inl hn⟩), bv_set]
      congr 1
      unfold tv; rw [if_neg (by simp)]
    · have e : tv (T.getD t default) = (T.getD t default).mi := by unfold tv; rw [if_neg hn]
      rw [e]
      by_cases hlt : (T.getD b default).mi + m < (T.getD t default).mi
      · rw [if_pos (Or.inr hlt), if_pos (gTake_iff.2 ⟨hm, Or.inr hlt⟩), bv_set]
        congr 1
        unfold tv; rw [if_neg (by simp)]
      · rw [if_neg (by omega), if_neg (fun h => by rcases (gTake_iff.1 h).2 with h | h; exact hn h; exact hlt h)]
theorem sim_row {T : List Tp} {c b : Nat} {R : List Int} (hB : TpB c T) (hb : b < T.length) (hR : ∀ j, -1 ≤ R.getD j 0 ∧ R.getD j 0 ≤ 10000) (hp : (T.getD b default).ps ≠ []) : ∀ k, k ≤ T.length → bRow (bv T) b R k = bv (gRow T b R k)
  | 0, _ => rfl
  | k + 1, hk => by
    rw [bRow, sim_row hB hb hR hp k (by omega), gRow]
    exact sim_step (hB.row hR k) (by rw [gRow_len]; exact hb) (by rw [gRow_len]; omega) (hR k).1 (gRow_ne hp k (by omega))
theorem stay_row {B : List Int} {b : Nat} {R : List Int} (h : B.getD b 0 < 0) : ∀ k, bRow B b R k = B
  | 0 => rfl
  | k + 1 => by rw [bRow, stay_row h k]; unfold bStep; rw [if_pos (Or.inl h)]
theorem sim_on {T : List Tp} {c b n : Nat} {R : List Int} (hB : TpB c T) (hT : T.length = n) (hb : b < n) (hl : R.length = n) (hR : ∀ j, -1 ≤ R.getD j 0 ∧ R.getD j 0 ≤ 10000) : bRow (bv T) b R n = bv (gOn T b R) := by
  unfold gOn
  by_cases hp : (T.getD b default).ps = []
  · rw [if_pos (isE_t hp)]
    exact stay_row (by rw [bv_at (by omega)]; unfold tv; rw [if_pos hp]; decide) n
  · rw [if_neg (by rw [isE_f hp]; exact Bool.false_ne_true), hl]
    exact sim_row hB (by omega) hR hp n (by omega)
theorem sim_all {T : List Tp} {Pl : List ByteArray} {M : List (List Int)} {c : Nat} (hM : ChOk Pl M) (hB : TpB c T) (hT : T.length = Pl.length) : ∀ k, k ≤ Pl.length → bAll (bv T) M Pl.length k = bv (gAll T M k)
  | 0, _ => rfl
  | k + 1, hk => by
    rw [bAll, sim_all hM hB hT k (by omega), gAll]
    exact sim_on (gAll_B hM hB k (by omega)) (by rw [gAll_len]; exact hT) (by omega) (hM.row k (by omega)) (row_bnd hM (by omega))
theorem sim_rnd {T : List Tp} {Pl : List ByteArray} {M : List (List Int)} {c : Nat} (hM : ChOk Pl M) (hB : TpB c T) (hT : T.length = Pl.length) : ∀ r, ∃ d, TpB d (gRnd T M Pl.length r) ∧ bRnd (bv T) M Pl.length r = bv (gRnd T M Pl.length r)
  | 0 => ⟨c, hB, rfl⟩
  | r + 1 => by
    obtain ⟨d, h1, h2⟩ := sim_rnd hM hB hT r
    exact ⟨_, gAll_B hM h1 Pl.length (Nat.le_refl _), by rw [bRnd, h2, gRnd]; exact sim_all hM h1 (by rw [gRnd_len]; exact hT) _ (Nat.le_refl _)⟩
theorem sim_zero (n f : Nat) : bv (gZero n f) = bZero n f := by
  unfold gZero bZero
  rw [bv_set]
  congr 1
  unfold bv
  rw [List.map_replicate]; rfl
/-- The specification's least minutes are what the way takes. -/
theorem least_way {Pl : List ByteArray} {M : List (List Int)} {n f t : Nat} (hn : n = Pl.length) (hM : ChOk Pl M) (hf : f < n) (ht : t < n) : (bRnd (bZero n f) M n n).getD t 0 = tv ((gRnd (gZero n f) M n n).getD t default) := by
  subst hn
  obtain ⟨d, _, h⟩ := sim_rnd hM (gZero_B Pl.length f hf) (gZero_len _ _) Pl.length
  rw [sim_zero] at h
  rw [h, bv_at (by rw [gRnd_len, gZero_len]; exact ht)]
/-- Numbers in a block of their own. -/
structure IvAt (w : World) (g : Nat) (L : List Int) : Prop where
  at' : ∀ k, k < L.length → w.cell? ⟨g, k, none⟩ = some (.int .i64 (L.getD k 0))
  lt : g < w.heap.size
  fr : ∀ j, w.frozen? ⟨g, j, none⟩ = false
theorem IvAt.set {w : World} {g : Nat} {L : List Int} (h : IvAt w g L) {k : Nat} (hk : k < L.length) (v : Int) : IvAt (w.setCell ⟨g, k, none⟩ (.int .i64 v)) g (L.set k v) := by
  refine ⟨fun q hq => ?_, by simpa using h.lt, fun j => by rw [World.frozen?_setCell]; exact h.fr j⟩
  have hq' : q < L.length := by simpa using hq
  by_cases e : k = q
  · subst e; rw [iset_eq hk]; exact cell_sameT (h.at' k hk)
  · rw [iset_ne e, cell_offT (Or.inr e)]; exact h.at' q hq'
/-- Where the loops of Least stand. -/
structure LsS (w : World) (A B : Option Addr) (n ca cb : Nat) (V : List Int) (X : World) : Prop where
  c0 : X.cell? ⟨w.heap.size, 0, none⟩ = some (.slice A n ca)
  c1 : X.cell? ⟨w.heap.size, 1, none⟩ = some (.slice B n cb)
  iv : IvAt X (w.heap.size + 1) V
  be : Below w.heap.size w X
theorem LsS.set {w X : World} {A B : Option Addr} {n ca cb : Nat} {V : List Int} (h : LsS w A B n ca cb V X) {k : Nat} (hk : k < V.length) (v : Int) : LsS w A B n ca cb (V.set k v) (X.setCell ⟨w.heap.size + 1, k, none⟩ (.int .i64 v)) :=
  ⟨(cell_offT (Or.inl (by omega))).trans h.c0, (cell_offT (Or.inl (by omega))).trans h.c1, h.iv.set hk v, h.be.setCell (p := ⟨w.heap.size + 1, k, none⟩) (by show w.heap.size ≤ w.heap.size + 1; omega) _⟩
theorem LsS.drew {w X : World} {A B : Option Addr} {n ca cb : Nat} {V : List Int} (h : LsS w A B n ca cb V X) : LsS w A B n ca cb V X.drew := ⟨h.c0, h.c1, ⟨h.iv.at', h.iv.lt, h.iv.fr⟩, h.be.drew⟩
def inZ (n : Nat) : Array Value := (List.replicate n (Value.int .i64 0)).toArray
theorem mkIn {n : Nat} (h1 : 1 ≤ n) (h12 : n ≤ 12) (w : World) : (Instr.makeSlice 81 (.int .i64 n) (.int .i64 n)).run Tryz.prog w = .ok (.slice (some ⟨w.heap.size, 0, none⟩) n n) (w.alloc (.cells (inZ n) 3)) := by
  rcases (show n = 1 ∨ n = 2 ∨ n = 3 ∨ n = 4 ∨ n = 5 ∨ n = 6 ∨ n = 7 ∨ n = 8 ∨ n = 9 ∨ n = 10 ∨ n = 11 ∨ n = 12 by omega) with rfl | rfl | rfl | rfl | rfl | rfl | rfl | rfl | rfl | rfl | rfl | rfl <;> kernel_rfl
def fA (n k : Nat) : List Int := List.replicate k (-1) ++ List.replicate (n - k) 0
theorem fA_len {n k : Nat} (h : k ≤ n) : (fA n k).length = n := by unfold fA; simp; omega
theorem fA_set {n k : Nat} (h : k < n) : (fA n k).set k (-1) = fA n (k + 1) := by
  unfold fA
  rw [List.set_append_right _ _ (by simp)]
  simp only [List.length_replicate, Nat.sub_self]
  obtain ⟨d, hd⟩ : ∃ d, n - k = d + 1 := ⟨n - k - 1, by omega⟩
  rw [hd, show n - (k + 1) = d by omega, List.replicate_succ, List.set_cons_zero, List.replicate_succ']
  simp
theorem fA_n (n : Nat) : fA n n = List.replicate n (-1) := by unfold fA; simp
set_option maxRecDepth 100000 in
set_option maxHeartbeats 8000000 in
theorem Least_is (A B : Option Addr) (n ca cb fr to_ : Nat) (Pl : List ByteArray) (M : List (List Int)) (E : Int) (w : World) (hl0 : 0 < n) (hl : n ≤ 12) (HC : Hid (ChSl w A B n Pl M)) (hf : fr < n) (ht : to_ < n) (hE : Hid ((bRnd (bZero n fr) M n n).getD to_ 0 = E)) :
    Calls Tryz.prog 47 #[.agg #[.slice A n ca, .slice B n cb], .int .i64 fr, .int .i64 to_] w fun e w' => e = .returned (.int .i64 E) ∧ Below w.heap.size w w' := by
  have fn : (fr : Int) < (n : Int) := by omega
  have tn : (to_ : Int) < (n : Int) := by omega
  have hmk := fun (w : World) => mkIn (n := n) (by omega) hl w
  obtain ⟨zz, hzz⟩ : ∃ zz, Hid (inZ n = zz) := ⟨_, Lib.hid rfl⟩
  rw [hzz.out] at hmk
  have HMB : Hid (∀ i, i < n → ∀ j, -1 ≤ (M.getD i []).getD j 0 ∧ (M.getD i []).getD j 0 ≤ 10000) := Lib.hid fun i hi => row_bnd HC.out.ok (by rw [← HC.out.hn]; exact hi)
  go_enter Tryz.func47, Tryz.ntmps47
  go_upto_region 3 with (fail)
  refine wp_world (LsS w A B n ca cb (fA n 0)) ⟨by simp [go_sem, World.cell?_alloc_past], by simp [go_sem, World.cell?_alloc_past], ⟨?_, by simp, by intro j; simp [go_sem]⟩, (by (repeat (first | (with_reducible refine Below.drew ?_) | (with_reducible refine below_drewN ?_ _) | (with_reducible refine Below.alloc ?_ (by first | omega | (simp; done) | (simp; omega) | (simp at *; omega)) _) | (with_reducible refine Below.setCell ?_ (by first | omega | (simp; done) | (simp; omega) | (simp at *; omega)) _) | (with_reducible exact Below.refl _ _) | (with_reducible assumption) | (with_reducible refine Below.trans ?_ (Below.mono (by assumption) (by first | omega | (simp; done) | (simp; omega) | (simp at *; omega)))))))⟩ (fun u hu => ?_)
  · intro k hk
    rw [fA_len (by omega)] at hk
    have e : (fA n 0).getD k 0 = 0 := by unfold fA; rw [List.replicate_zero, List.nil_append, Nat.sub_zero]; exact repI n k 0 hk
    rw [e, ← hzz.out]
    unfold inZ
    simp [go_sem, hk]
  have HU := Lib.hid hu
  clear hu hmk
  go_wp2
  go_loopw [9] (fun i wr => ∃ k : Nat, k ≤ n ∧ i = .int .i64 k ∧ Hid (LsS w A B n ca cb (fA n k) wr)) (fun i _ => n - (intOf i).toNat)
  case atStart => exact ⟨0, by omega, rfl, HU⟩
  case round =>
    clear HU
    obtain ⟨k, hk, rfl, HU⟩ := hrel
    by_cases hkn : k < n
    · have kn : (k : Int) < (n : Int) := by omega
      have c9 := HU.out.iv.at' k (by rw [fA_len (by omega)]; exact hkn)
      have f9 := HU.out.iv.fr
      have HU2 := Lib.hid (HU.out.set (k := k) (by rw [fA_len (by omega)]; exact hkn) (-1))
      rw [fA_set hkn] at HU2
      go_wp2
      go_roundw
      case rel => exact ⟨k + 1, by omega, by go_num, HU2⟩
      case measure => (simp [intOf]) <;> omega
    · have hkk : k = n := by omega
      have kn : ¬ (k : Int) < (n : Int) := by omega
      rw [hkk, fA_n] at HU
      have c9 := HU.out.iv.at' fr (by simpa using hf)
      have f9 := HU.out.iv.fr
      have HU2 := Lib.hid (HU.out.set (k := fr) (by simpa using hf) 0)
      clear hkk HU
      go_upto_region 8 with (fail)
      refine wp_world (LsS w A B n ca cb (bZero n fr)) HU2.out (fun v hv => ?_)
      have HV := Lib.hid hv
      clear hv HU2 c9 f9
      go_wp2
      go_loopw [10] (fun i wr => ∃ r : Nat, r ≤ n ∧ i = .int .i64 r ∧ Hid (LsS w A B n ca cb (bRnd (bZero n fr) M n r) wr)) (fun i _ => n - (intOf i).toNat)
      case atStart => exact ⟨0, by omega, rfl, HV⟩
      case round =>
        clear HV
        obtain ⟨r, hr, rfl, HU⟩ := hrel
        by_cases hrn : r < n
        · have rn : (r : Int) < (n : Int) := by omega
          have HB1 := Lib.hid ((BB.zero n fr).rnd (M := M) hl (fun i hi j => (HMB.out i hi j).2) r)
          obtain ⟨T1, hT1⟩ : ∃ T1, Hid (bRnd (bZero n fr) M n r = T1) := ⟨_, Lib.hid rfl⟩
          rw [hT1.out] at HU HB1
          have HLT : Hid (T1.length = n) := Lib.hid (by rw [← hT1.out, bRnd_len, bZero_len])
          have HNX : Hid (bRnd (bZero n fr) M n (r + 1) = bAll T1 M n n) := Lib.hid (by rw [bRnd, hT1.out])
          go_wp2
          go_loopw [11] (fun i wr => ∃ q : Nat, q ≤ n ∧ i = .int .i64 q ∧ Hid (LsS w A B n ca cb (bAll T1 M n q) wr)) (fun i _ => n - (intOf i).toNat)
          case atStart => exact ⟨0, by omega, rfl, HU⟩
          case round =>
            clear HU
            obtain ⟨q, hq, rfl, HU⟩ := hrel
            by_cases hqn : q < n
            · have qn : (q : Int) < (n : Int) := by omega
              have HB2 := Lib.hid (HB1.out.all (M := M) hl (fun i hi j => (HMB.out i hi j).2) q hq)
              obtain ⟨T2, hT2⟩ : ∃ T2, Hid (bAll T1 M n q = T2) := ⟨_, Lib.hid rfl⟩
              rw [hT2.out] at HU HB2
              have HLT2 : Hid (T2.length = n) := Lib.hid (by rw [← hT2.out, bAll_len]; exact HLT.out)
              have HNX2 : Hid (bAll T1 M n (q + 1) = bRow T2 q (M.getD q []) n) := Lib.hid (by rw [bAll, hT2.out])
              obtain ⟨mb, mo, C, cr, eB, lm, g1, csp, lr, g2⟩ := HC.out.at hqn
              obtain ⟨rb, ro, sp⟩ := C
              dsimp only at csp lr g2
              subst csp
              have HG1 := Lib.hid g1
              have HG2 := Lib.hid g2
              clear g1 g2
              go_wp2
              go_loopw [12] (fun i wr => ∃ k : Nat, k ≤ n ∧ i = .int .i64 k ∧ Hid (LsS w A B n ca cb (bRow T2 q (M.getD q []) k) wr)) (fun i _ => n - (intOf i).toNat)
              case atStart => exact ⟨0, by omega, rfl, HU⟩
              case round =>
                clear HU
                obtain ⟨k, hk, rfl, HU⟩ := hrel
                by_cases hkn : k < n
                · have kn : (k : Int) < (n : Int) := by omega
                  have HB3 := Lib.hid (HB2.out.row (i := q) (R := M.getD q []) (fun j => (HMB.out q hqn j).2) k)
                  obtain ⟨T3, hT3⟩ : ∃ T3, Hid (bRow T2 q (M.getD q []) k = T3) := ⟨_, Lib.hid rfl⟩
                  rw [hT3.out] at HU HB3
                  have HLT3 : Hid (T3.length = n) := Lib.hid (by rw [← hT3.out, bRow_len]; exact HLT2.out)
                  have HNX3 : Hid (bRow T2 q (M.getD q []) (k + 1) = bStep T3 q k (mAt M q k)) := Lib.hid (by rw [bRow, hT3.out]; rfl)
                  have hbe := HU.out.be
                  have zs := hbe.size
                  have d1 := (hbe.cell (p := ⟨mb, mo + q, none⟩) lm).trans HG1.out
                  have d2 := (hbe.cell (p := ⟨rb, ro + k, none⟩) lr).trans (HG2.out k hkn)
                  have c1 := HU.out.c1
                  rw [eB] at c1
                  have ci := HU.out.iv.at' q (by rw [HLT3.out]; exact hqn)
                  have ck := HU.out.iv.at' k (by rw [HLT3.out]; exact hkn)
                  have f9 := HU.out.iv.fr
                  have bi := HB3.out q
                  have bk := HB3.out k
                  have bm := HMB.out q hqn k
                  rw [show (M.getD q []).getD k 0 = mAt M q k from rfl] at bm
                  obtain ⟨a, ha⟩ : ∃ a, Hid (T3.getD q 0 = a) := ⟨_, Lib.hid rfl⟩
                  obtain ⟨b, hb⟩ : ∃ b, Hid (T3.getD k 0 = b) := ⟨_, Lib.hid rfl⟩
                  obtain ⟨m, hm⟩ : ∃ m, Hid (mAt M q k = m) := ⟨_, Lib.hid rfl⟩
                  rw [ha.out] at ci bi
                  rw [hb.out] at ck bk
                  rw [hm.out] at d2 bm HNX3
                  have ST : Hid (bStep T3 q k m = if a < 0 ∨ m < 0 then T3 else if b < 0 ∨ a + m < b then T3.set k (a + m) else T3) := Lib.hid (by unfold bStep; rw [ha.out, hb.out])
                  have HBE := Lib.hid hbe
                  clear hbe
                  by_cases ha0 : a < 0
                  · have HU2 : Hid (LsS w A B n ca cb (bRow T2 q (M.getD q []) (k + 1)) wr) := Lib.hid (by rw [HNX3.out, ST.out, if_pos (Or.inl ha0)]; exact HU.out)
                    clear bi bk bm
                    go_wp2
                    go_roundw
                    case rel => exact ⟨k + 1, by omega, by go_num, HU2⟩
                    case measure => (simp [intOf]) <;> omega
                  by_cases hm0 : m < 0
                  · have HU2 : Hid (LsS w A B n ca cb (bRow T2 q (M.getD q []) (k + 1)) wr) := Lib.hid (by rw [HNX3.out, ST.out, if_pos (Or.inr hm0)]; exact HU.out)
                    clear bi bk bm
                    go_wp2
                    go_roundw
                    case rel => exact ⟨k + 1, by omega, by go_num, HU2⟩
                    case measure => (simp [intOf]) <;> omega
                  obtain ⟨x, hx⟩ : ∃ x, Hid (a + m = x) := ⟨_, Lib.hid rfl⟩
                  have wam : IntKind.i64.wrap (a + m) = x := by rw [IntWalk.i64_in _ (by omega)]; exact hx.out
                  rw [hx.out] at ST
                  have HST : Hid (bRow T2 q (M.getD q []) (k + 1) = if b < 0 ∨ x < b then T3.set k x else T3) := Lib.hid (by rw [HNX3.out, ST.out, if_neg (fun h => h.elim ha0 hm0)])
                  have HUD := Lib.hid HU.out.drew
                  clear bi bk bm ST HNX3
                  go_upto_region 18 with (fail)
                  refine wp_region_held_drew (S := (fun w' => w'.cell? ⟨w.heap.size, 1, none⟩ = some (.slice (some ⟨mb, mo, none⟩) n cb) ∧ w'.cell? ⟨w.heap.size + 1, q, none⟩ = some (.int .i64 a) ∧ w'.cell? ⟨mb, mo + q, none⟩ = some (.slice (some ⟨rb, ro, none⟩) n cr) ∧ w'.cell? ⟨rb, ro + k, none⟩ = some (.int .i64 m))) (by kernel_rfl) (by simp [go_sem, World.cell?_alloc_past, *]) (fun hHeld => ?_)
                  refine tkH 0 ⟨some 61, _, _, _, _, _⟩ ?_ rfl ?_ (by assumption) ?_
                  rotate_left
                  · (intro w hSw; (try dsimp only at hSw); go_simp; all_goals with_reducible rfl)
                  try simp only [Act.put, sA, sB, sC]
                  refine tkH 1 ⟨some 62, _, _, _, _, _⟩ ?_ rfl ?_ (by assumption) ?_
                  rotate_left
                  · (intro w hSw; (try dsimp only at hSw); go_simp; all_goals with_reducible rfl)
                  try simp only [Act.put, sA, sB, sC]
                  refine tkH 2 ⟨some 63, _, _, _, _, _⟩ ?_ rfl ?_ (by assumption) ?_
                  rotate_left
                  · (intro w hSw; (try dsimp only at hSw); go_simp; all_goals with_reducible rfl)
                  try simp only [Act.put, sA, sB, sC]
                  refine tkH 3 ⟨some 64, _, _, _, _, _⟩ ?_ rfl ?_ (by assumption) ?_
                  rotate_left
                  · (intro w hSw; (try dsimp only at hSw); go_simp; all_goals with_reducible rfl)
                  try simp only [Act.put, sA, sB, sC]
                  refine tkH 4 ⟨some 65, _, _, _, _, _⟩ ?_ rfl ?_ (by assumption) ?_
                  rotate_left
                  · (intro w hSw; (try dsimp only at hSw); go_simp; all_goals with_reducible rfl)
                  try simp only [Act.put, sA, sB, sC]
                  refine tkH 5 ⟨some 66, _, _, _, _, _⟩ ?_ rfl ?_ (by assumption) ?_
                  rotate_left
                  · (intro w hSw; (try dsimp only at hSw); go_simp; all_goals with_reducible rfl)
                  try simp only [Act.put, sA, sB, sC]
                  refine tkH 6 ⟨some 67, _, _, _, _, _⟩ ?_ rfl ?_ (by assumption) ?_
                  rotate_left
                  · (intro w hSw; (try dsimp only at hSw); go_simp; all_goals with_reducible rfl)
                  try simp only [Act.put, sA, sB, sC]
                  refine tkH 7 ⟨some 68, _, _, _, _, _⟩ ?_ rfl ?_ (by assumption) ?_
                  rotate_left
                  · (intro w hSw; (try dsimp only at hSw); go_simp; all_goals with_reducible rfl)
                  try simp only [Act.put, sA, sB, sC]
                  refine tkH 8 ⟨some 69, _, _, _, _, _⟩ ?_ rfl ?_ (by assumption) ?_
                  rotate_left
                  · (intro w hSw; (try dsimp only at hSw); go_simp; all_goals with_reducible rfl)
                  try simp only [Act.put, sA, sB, sC]
                  refine tkH 9 ⟨some 70, _, _, _, _, _⟩ ?_ rfl ?_ (by assumption) ?_
                  rotate_left
                  · (intro w hSw; (try dsimp only at hSw); go_simp; all_goals with_reducible rfl)
                  try simp only [Act.put, sA, sB, sC]
                  refine tkH 10 ⟨some 71, _, _, _, _, _⟩ ?_ rfl ?_ (by assumption) ?_
                  rotate_left
                  · (intro w hSw; (try dsimp only at hSw); go_simp; all_goals with_reducible rfl)
                  try simp only [Act.put, sA, sB, sC]
                  refine tkH 11 ⟨some 72, _, _, _, _, _⟩ ?_ rfl ?_ (by assumption) ?_
                  rotate_left
                  · (intro w hSw; (try dsimp only at hSw); go_simp; all_goals with_reducible rfl)
                  try simp only [Act.put, sA, sB, sC]
                  refine tkH 12 ⟨some 73, _, _, _, _, _⟩ ?_ rfl ?_ (by assumption) ?_
                  rotate_left
                  · (intro w hSw; (try dsimp only at hSw); go_simp; all_goals with_reducible rfl)
                  try simp only [Act.put, sA, sB, sC]
                  refine tkH 13 ⟨some 13, _, _, _, _, _⟩ ?_ rfl ?_ (by assumption) ?_
                  rotate_left
                  · (intro w hSw; (try dsimp only at hSw); go_simp; all_goals with_reducible rfl)
                  try simp only [Act.put, sA, sB, sC]
                  refine wpAnyH_done (by kernel_rfl) ?_ _
                  by_cases hb0 : b < 0
                  · have HU2 : Hid (LsS w A B n ca cb (bRow T2 q (M.getD q []) (k + 1)) ((wr.setCell ⟨w.heap.size + 1, k, none⟩ (.int .i64 x)).drew)) := Lib.hid (by rw [HST.out, if_pos (Or.inl hb0)]; exact (HU.out.set (by rw [HLT3.out]; exact hkn) x).drew)
                    go_wp2
                    go_roundw
                    case rel => exact ⟨k + 1, by omega, by go_num, HU2⟩
                    case measure => (simp [intOf]) <;> omega
                  by_cases hxb : x < b
                  · have HU2 : Hid (LsS w A B n ca cb (bRow T2 q (M.getD q []) (k + 1)) ((wr.setCell ⟨w.heap.size + 1, k, none⟩ (.int .i64 x)).drew)) := Lib.hid (by rw [HST.out, if_pos (Or.inr hxb)]; exact (HU.out.set (by rw [HLT3.out]; exact hkn) x).drew)
                    go_wp2
                    go_roundw
                    case rel => exact ⟨k + 1, by omega, by go_num, HU2⟩
                    case measure => (simp [intOf]) <;> omega
                  · have HU2 : Hid (LsS w A B n ca cb (bRow T2 q (M.getD q []) (k + 1)) wr.drew) := Lib.hid (by rw [HST.out, if_neg (fun h => h.elim hb0 hxb)]; exact HUD.out)
                    go_wp2
                    go_roundw
                    case rel => exact ⟨k + 1, by omega, by go_num, HU2⟩
                    case measure => (simp [intOf]) <;> omega
                · have hkk : k = n := by omega
                  have kn : ¬ (k : Int) < (n : Int) := by omega
                  have HU2 : Hid (LsS w A B n ca cb (bAll T1 M n (q + 1)) wr) := Lib.hid (by have h := HU.out; rw [hkk] at h; rw [HNX2.out]; exact h)
                  clear hkk
                  go_wp2
                  go_roundw
                  case rel => exact ⟨q + 1, by omega, by go_num, HU2⟩
                  case measure => (simp [intOf]) <;> omega
            · have qn : ¬ (q : Int) < (n : Int) := by omega
              have HU2 : Hid (LsS w A B n ca cb (bRnd (bZero n fr) M n (r + 1)) wr) := Lib.hid (by
                have e : q = n := by omega
                have h := HU.out
                rw [e] at h
                rw [HNX.out]; exact h)
              go_wp2
              go_roundw
              case rel => exact ⟨r + 1, by omega, by go_num, HU2⟩
              case measure => (simp [intOf]) <;> omega
        · have rn : ¬ (r : Int) < (n : Int) := by omega
          have hrr : r = n := by omega
          rw [hrr] at HU
          have c9 := HU.out.iv.at' to_ (by rw [bRnd_len, bZero_len]; exact ht)
          rw [hE.out] at c9
          have HB := Lib.hid HU.out.be
          clear hrr HU
          go_wp2
          go_ret
          exact ⟨rfl, HB.out⟩
end Go.Proofs.YtojaompfffpofaaGreat
