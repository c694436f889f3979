import Derived.Test.YtijdphlejokijaaGreatERSELeg
import Derived.Test.YtijdphlejokijaaGreatERSERfC
import Derived.Outline
import Derived.Test.YtijdphlejokijaaGreatERSECons
import Derived.Test.YtijdphlejokijaaGreatERSELgp
namespace Go.Proofs.YtijdphlejokijaaGreat
open Go.ChangeShapes Go.WideShapes Go.ChangeAt Go.RowKit
set_option linter.unusedVariables false
set_option linter.unusedSimpArgs false
attribute [local go_sem ↓] Go.wp_at_zero Go.wp_at_succ

/-- What is known of a plan that is followed. -/
def FolG (nm : ByteArray) (s : Int) (A : Option Addr) (gn gc : Nat) (B : Option Addr) (dn dc : Nat) (D : List Le) (E : Int) (a0 : ByteArray) (a1 : Int) (a2 : Option Addr) (n2 c2 : Nat) (a3 : Option Addr) (n3 c3 : Nat) (a4 : Option Addr) (n4 c4 : Nat) (a5 : Int) (X : World) : Prop :=
  E = 0 → (a0 = nm ∧ a1 = s ∧ a2 = A ∧ n2 = gn ∧ c2 = gc ∧ a3 = B ∧ n3 = dn ∧ c3 = dc ∧ n4 = dn + 1 ∧ a5 = secT D dn) ∧ SlRows ptV 2 X a4 (ptL D (dn + 1))
theorem FolG.below {nm : ByteArray} {s : Int} {A : Option Addr} {gn gc : Nat} {B : Option Addr} {dn dc : Nat} {D : List Le} {E : Int} {a0 : ByteArray} {a1 : Int} {a2 : Option Addr} {n2 c2 : Nat} {a3 : Option Addr} {n3 c3 : Nat} {a4 : Option Addr} {n4 c4 : Nat} {a5 : Int} {X Y : World} (h : FolG nm s A gn gc B dn dc D E a0 a1 a2 n2 c2 a3 n3 c3 a4 n4 c4 a5 X) (hb : Below X.heap.size X Y) : FolG nm s A gn gc B dn dc D E a0 a1 a2 n2 c2 a3 n3 c3 a4 n4 c4 a5 Y :=
  fun e => ⟨(h e).1, (h e).2.below hb⟩
theorem follow_x (nm : ByteArray) (s : Int) (G : List Ga) (D : List Le) (A B : Option Addr) (gn gc dn dc : Nat) (N : Nat) (E : Int) (w : World) (hz : nm.size ≤ 9223372036854775807) (hgn : Hid (gn = G.length)) (hgl : gn ≤ 9223372036854775807) (hdn : Hid (dn = D.length)) (hdl : dn ≤ 9223372036854775807) (hG : Hid (SlRows gaV 2 w A G)) (hD : Hid (SlRows leV 3 w B D)) (hE : Hid (plnP nm s G D = (N, E))) :
    Calls Tryz.prog 30 #[.agg #[.string nm, .int .i64 s, .slice A gn gc, .slice B dn dc]] w fun e w' => ∃ a0 a1 a2 n2 c2 a3 n3 c3 a4 n4 c4 a5, e = .returned (.tuple #[.agg #[.string a0, .int .i64 a1, .slice a2 n2 c2, .slice a3 n3 c3, .slice a4 n4 c4, .int .i64 a5], .int .i64 E]) ∧ n3 ≤ 9223372036854775807 ∧ n2 ≤ 9223372036854775807 ∧ FolG nm s A gn gc B dn dc D E a0 a1 a2 n2 c2 a3 n3 c3 a4 n4 c4 a5 w' ∧ Below w.heap.size w w' := by
  refine (follow_any nm s G D A B gn gc dn dc N E w hz hgn hgl hdn hdl hG hD hE).mono ?_
  rintro e x1 (⟨h0, rfl, hb⟩ | ⟨h0, P, pc, E9, rfl, hP, h9, hb⟩)
  · exact ⟨_, _, _, _, _, _, _, _, _, _, _, _, rfl, by omega, by omega, fun e => absurd e h0, hb⟩
  · exact ⟨_, _, _, _, _, _, _, _, _, _, _, _, by rw [h0], hdl, hgl, fun _ => ⟨⟨rfl, rfl, rfl, rfl, rfl, rfl, rfl, rfl, rfl, h9.symm⟩, hP⟩, hb⟩
theorem fir_x {a : Int} {l m : List Int} (h : a = 0 → l = m) : firE (a :: l) = firE (a :: m) := by
  unfold firE
  by_cases e : a = 0
  · rw [if_pos e, if_pos e, h e]
  · rw [if_neg e, if_neg e]
theorem BlkF.put {u : World} {B b : Nat} {vs : List Value} (h : BlkF u B b vs) {i : Nat} (v : Value) (hi : i < vs.length) : BlkF (u.setCell ⟨b, i, none⟩ v) B b (vs.set i v) := by
  refine ⟨h.ge, by simpa using h.lt, fun j x hx => ?_, fun j => by rw [World.frozen?_setCell]; exact h.fz j⟩
  by_cases e : i = j
  · subst e
    rw [List.getElem?_set_self hi] at hx
    injection hx with hx
    subst hx
    exact cell_sameB (h.at' i _ (List.getElem?_eq_getElem hi))
  · rw [List.getElem?_set_ne e] at hx
    rw [cell_offB e]
    exact h.at' j x hx
end Go.Proofs.YtijdphlejokijaaGreat

namespace Go.Proofs.YtijdphlejokijaaGreat
open Go.Shelf Go.ChangeShapes Go.WideShapes Go.ChangeAt Go.RowKit
set_option linter.unusedVariables false
set_option linter.unusedSimpArgs false
attribute [local go_sem ↓] Go.wp_at_zero Go.wp_at_succ
attribute [local go_sem] Oper.semAt_some
/-- What a leg breathes up to a second of its plan. -/
def binS (y : Pl) (b t : Int) : Int := if t ≤ y.bs then 0 else binV y b (min y.s (t - y.bs))
def ctStep (b t : Int) (y : Pl) (l : List Int) : List Int := l.set y.g.toNat (l.getD y.g.toNat 0 + binS y b t)
/-- The amounts up to a second, behind some legs. -/
def conT (b t : Int) (f : Nat → Pl) (n : Nat) (pre : List Nat) : List Int := pre.foldl (fun l k => ctStep b t (f k) l) (List.replicate n 0)
theorem conT_snoc (b t : Int) (f : Nat → Pl) (n : Nat) (pre : List Nat) (x : Nat) : conT b t f n (pre ++ [x]) = ctStep b t (f x) (conT b t f n pre) := by simp [conT]
theorem conT_congr {b t : Int} {f g : Nat → Pl} {n : Nat} {pre : List Nat} (h : ∀ k ∈ pre, f k = g k) : conT b t f n pre = conT b t g n pre := foldl_congr' fun l k hk => by rw [h k hk]
theorem conT_range {b t s : Int} {G : List Ga} {D : List Le} {n k : Nat} (hk : k ≤ D.length) : conT b t (legC s G D) n (List.range k) = conT b t (legK s G D) n (List.range k) := conT_congr fun j hj => by rw [legC_is (by have := List.mem_range.1 hj; omega)]
theorem upE_le {n d K : Int} (d0 : 0 < d) (h : n ≤ d * K) : upE n d ≤ K := by
  have h2 : (d * K + (d - 1)) / d = K := by
    rw [Int.add_comm, Int.add_mul_ediv_left _ _ (by omega), Int.ediv_eq_zero_of_lt (by omega) (by omega)]; omega
  exact Int.le_trans (Int.ediv_le_ediv d0 (by omega)) (Int.le_of_eq h2)
theorem upE_ge0 {n d : Int} (n0 : 0 ≤ n) (d0 : 0 < d) : 0 ≤ upE n d := Int.ediv_nonneg (by omega) (by omega)
theorem binS_bd {y : Pl} {b t : Int} (h : PlOk y) (b0 : 1 ≤ b) (b1 : b ≤ 100000) (s1 : y.s ≤ 20000) (t0 : 0 ≤ t) : 0 ≤ binS y b t ∧ binS y b t ≤ 124400000000000 := by
  unfold binS
  by_cases e : t ≤ y.bs
  · rw [if_pos e]; omega
  rw [if_neg e]
  have hs := h.s
  obtain ⟨q, hq⟩ : ∃ q, min y.s (t - y.bs) = q := ⟨_, rfl⟩
  rw [hq]
  have B := bin_bd h b0 b1 (q := q) (by omega) (by omega) s1
  obtain ⟨_, _, _, _, _, x0, x1, x2, _⟩ := B
  unfold binV
  refine ⟨upE_ge0 x2 (by omega), upE_le (by omega) ?_⟩
  have m := mul_bd x0 x1 (show 0 ≤ q by omega) (show q ≤ 20000 by omega)
  refine Int.le_trans m.2 ?_
  have e1 : 100000 * (62200 * y.s) * 20000 = 124400000000000 * y.s := by omega
  have e2 : 120000 * y.s * 124400000000000 = 14928000000000000000 * y.s := by omega
  rw [e1, e2]
  omega
theorem conT_snocL (b t : Int) (f : Nat → Pl) (n : Nat) : ∀ (m : Nat) (pre : List Nat), pre.length = m → (conT b t f n pre).length = n ∧ ((∀ k, PlOk (f k)) → (∀ k, (f k).s ≤ 20000) → 1 ≤ b → b ≤ 100000 → 0 ≤ t → ∀ g, 0 ≤ (conT b t f n pre).getD g 0 ∧ (conT b t f n pre).getD g 0 ≤ m * 124400000000000)
  | 0, pre, h => by
    obtain rfl := List.eq_nil_of_length_eq_zero h
    refine ⟨by simp [conT], fun _ _ _ _ _ g => ?_⟩
    have : (conT b t f n []).getD g 0 = 0 := by
      unfold conT
      simp only [List.foldl_nil, List.getD_eq_getElem?_getD, List.getElem?_replicate]
      split <;> rfl
    rw [this]; omega
  | m + 1, pre, h => by
    obtain ⟨q, x, rfl⟩ : ∃ q x, pre = q ++ [x] := by
      have hne : pre ≠ [] := by intro e; rw [e] at h; simp at h
      exact ⟨pre.dropLast, pre.getLast hne, (List.dropLast_concat_getLast hne).symm⟩
    have hq : q.length = m := by simpa using h
    obtain ⟨h1, h2⟩ := conT_snocL b t f n m q hq
    rw [conT_snoc]
    refine ⟨by simp [ctStep, h1], fun hf hs b0 b1 t0 g => ?_⟩
    have hb := binS_bd (hf x) b0 b1 (hs x) t0
    have hg := h2 hf hs b0 b1 t0 g
    have hx := h2 hf hs b0 b1 t0 (f x).g.toNat
    unfold ctStep
    rw [List.getD_eq_getElem?_getD, List.getElem?_set]
    by_cases e : (f x).g.toNat = g
    · rw [if_pos e]
      by_cases e2 : (f x).g.toNat < (conT b t f n q).length
      · rw [if_pos e2]
        simp only [Option.getD_some]
        omega
      · rw [if_neg e2]
        simp only [Option.getD_none]
        omega
    · rw [if_neg e, ← List.getD_eq_getElem?_getD]
      omega
theorem sec_mono {nm : ByteArray} {s : Int} {G : List Ga} {D : List Le} (h : PlnOk nm s G D) : ∀ {j k : Nat}, j ≤ k → k ≤ D.length → secT D j ≤ secT D k
  | j, 0, hj, _ => by obtain rfl : j = 0 := by omega
                      exact Int.le_refl _
  | j, k + 1, hj, hk => by
    by_cases e : j = k + 1
    · rw [e]; exact Int.le_refl _
    · have ih := sec_mono h (j := j) (k := k) (by omega) (by omega)
      have h1 := (h.le _ (List.getElem_mem (show k < D.length by omega))).1
      rw [secT_succ (show k < D.length by omega)]
      omega
theorem leg_short {nm : ByteArray} {s : Int} {G : List Ga} {D : List Le} (h : PlnOk nm s G D) (hS : secT D D.length ≤ 20000) (k : Nat) : (legC s G D k).s ≤ 20000 := by
  unfold legC
  by_cases hk : k < D.length
  · rw [if_pos hk]
    have h1 := sec_mono h (show k + 1 ≤ D.length by omega) (Nat.le_refl _)
    rw [secT_succ hk] at h1
    have h2 := (h.sec k).1
    show (D.getD k default).s ≤ 20000
    rw [getD_leE hk]
    omega
  · rw [if_neg hk]; decide
/-- Legs that begin later add nothing. -/
theorem conT_cut {nm : ByteArray} {s : Int} {G : List Ga} {D : List Le} {b t : Int} {n dn : Nat} (h : PlnOk nm s G D) (hdn : Hid (dn = D.length)) (hgn : Hid (n = G.length)) {k : Nat} (hk : k ≤ dn) (ht : t ≤ (legK s G D k).bs) : conT b t (legK s G D) n (List.range dn) = conT b t (legK s G D) n (List.range k) := by
  obtain ⟨m, rfl⟩ : ∃ m, dn = k + m := ⟨dn - k, by omega⟩
  have : ∀ m, k + m ≤ D.length → conT b t (legK s G D) n (List.range (k + m)) = conT b t (legK s G D) n (List.range k) := by
    intro m
    induction m with
    | zero => intro _; rfl
    | succ m ih =>
      intro hm
      rw [show k + (m + 1) = (k + m) + 1 by omega, List.range_succ, conT_snoc, ih (by omega)]
      have hb : t ≤ (legK s G D (k + m)).bs := by
        refine Int.le_trans ht ?_
        show secT D k ≤ secT D (k + m)
        exact sec_mono h (by omega) (by omega)
      unfold ctStep binS
      rw [if_pos hb, Int.add_zero]
      have hlen := (conT_snocL b t (legK s G D) n k (List.range k) (by simp)).1
      by_cases hg : (legK s G D (k + m)).g.toNat < (conT b t (legK s G D) n (List.range k)).length
      · refine List.ext_getElem (by simp) fun i h1 h2 => ?_
        rw [List.getElem_set]
        split
        · rename_i e; subst e; rw [List.getD_eq_getElem?_getD, List.getElem?_eq_getElem hg]; rfl
        · rfl
      · exact List.set_eq_of_length_le (by omega)
  exact this m (by have := hdn.out; omega)
theorem checkTrace_x (a0 : ByteArray) (a1 : Int) (a2 : Option Addr) (n2 c2 : Nat) (a3 : Option Addr) (n3 c3 : Nat) (a4 : Option Addr) (n4 c4 : Nat) (a5 E : Int) (w : World) (h : Hid ((if 20000 < a5 then 8 else 0) = E)) :
    Calls Tryz.prog 33 #[.agg #[.string a0, .int .i64 a1, .slice a2 n2 c2, .slice a3 n3 c3, .slice a4 n4 c4, .int .i64 a5]] w fun e w' => e = .returned (.int .i64 E) ∧ Below w.heap.size w w' := by
  by_cases hc : 20000 < a5
  · have hE : Hid (E = 8) := Lib.hid (by rw [← h.out, if_pos hc])
    clear h
    go_enter Tryz.func33, Tryz.ntmps33
    go_wp2
    go_ret
    exact ⟨ret_int hE.out.symm, (by (repeat (first | (with_reducible refine Below.drew ?_) | (with_reducible refine below_drewN ?_ _) | (with_reducible refine Below.alloc ?_ (by first | omega | (simp; done) | (simp; omega) | (simp at *; omega)) _) | (with_reducible refine Below.setCell ?_ (by first | omega | (simp; done) | (simp; omega) | (simp at *; omega)) _) | (with_reducible exact Below.refl _ _) | (with_reducible assumption) | (with_reducible refine Below.trans ?_ (Below.mono (by assumption) (by first | omega | (simp; done) | (simp; omega) | (simp at *; omega)))))))⟩
  · have hE : Hid (E = 0) := Lib.hid (by rw [← h.out, if_neg hc])
    clear h
    go_enter Tryz.func33, Tryz.ntmps33
    go_wp2
    go_ret
    exact ⟨ret_int hE.out.symm, (by (repeat (first | (with_reducible refine Below.drew ?_) | (with_reducible refine below_drewN ?_ _) | (with_reducible refine Below.alloc ?_ (by first | omega | (simp; done) | (simp; omega) | (simp at *; omega)) _) | (with_reducible refine Below.setCell ?_ (by first | omega | (simp; done) | (simp; omega) | (simp at *; omega)) _) | (with_reducible exact Below.refl _ _) | (with_reducible assumption) | (with_reducible refine Below.trans ?_ (Below.mono (by assumption) (by first | omega | (simp; done) | (simp; omega) | (simp at *; omega)))))))⟩
theorem cFirst4X (x y z v E : Int) (b : Nat) (w : World) {B : Nat} (hE : Hid (firE [x, y, z, v] = E)) (h : BlkF w B b [.int .i64 x, .int .i64 y, .int .i64 z, .int .i64 v]) : Calls Tryz.prog 31 #[.slice (some ⟨b, 0, none⟩) 4 4] w fun e w' => e = .returned (.int .i64 E) ∧ Below w.heap.size w w' := by
  rw [← hE.out]
  exact cFirstB [x, y, z, v] b 0 4 w rfl (by simp) (by simp) (blk_ints (l := [x, y, z, v]) h)
end Go.Proofs.YtijdphlejokijaaGreat
