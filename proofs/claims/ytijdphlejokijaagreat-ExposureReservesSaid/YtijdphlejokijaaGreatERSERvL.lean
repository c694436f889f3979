import Derived.Test.YtijdphlejokijaaGreatERSERvR
import Derived.Outline
namespace Go.Proofs.YtijdphlejokijaaGreat
open Go.ChangeShapes Go.WideShapes Go.ChangeAt Go.RowKit
set_option linter.unusedVariables false
set_option linter.unusedSimpArgs false
attribute [local go_sem ↓] Go.wp_at_zero Go.wp_at_succ
def rmI (p b : Int) : Int := if p.tmod b < 0 then p.tmod b + b else p.tmod b
theorem rm_bd (p : Int) {b : Int} (hb : 1 ≤ b) : -b < p.tmod b ∧ p.tmod b < b := by
  refine ⟨?_, Int.tmod_lt_of_pos _ (by omega)⟩
  by_cases hp : 0 ≤ p
  · have := Int.tmod_nonneg b hp; omega
  · have h1 := Int.tmod_lt_of_pos (-p) (show 0 < b by omega)
    rw [Int.neg_tmod] at h1
    omega
theorem rvMod (p b r : Int) (w : World) (hb : 1 ≤ b) (hb2 : b ≤ 1000000000) (hr : Hid (rmI p b = r)) :
    Calls Tryz.prog 16 #[.int .i64 p, .int .i64 b] w fun e w' => e = .returned (.int .i64 r) ∧ Below w.heap.size w w' := by
  have bd := rm_bd p hb
  have hb0 : b ≠ 0 := by omega
  have ew1 : IntKind.i64.wrap (p.tmod b) = p.tmod b := IntWalk.i64_in _ (by omega)
  by_cases hn : p.tmod b < 0
  · have hv : Hid (p.tmod b + b = r) := by show _ = _; rw [← hr.out, rmI, if_pos hn]
    have ew2 : IntKind.i64.wrap (p.tmod b + b) = p.tmod b + b := IntWalk.i64_in _ (by omega)
    have ew3 : wrap64 (p.tmod b + b) = p.tmod b + b := (IntWalk.i64_left _).symm.trans ew2
    clear hr
    go_enter Tryz.func16, Tryz.ntmps16
    go_wp2
    go_ret
    exact ⟨ret_int hv.out, Below.refl _ _⟩
  · have hv : Hid (p.tmod b = r) := by show _ = _; rw [← hr.out, rmI, if_neg hn]
    clear hr
    go_enter Tryz.func16, Tryz.ntmps16
    go_wp2
    go_ret
    exact ⟨ret_int hv.out, Below.refl _ _⟩
theorem rmI_rng (p : Int) {b : Int} (hb : 1 ≤ b) : 0 ≤ rmI p b ∧ rmI p b < b := by
  have h := rm_bd p hb
  unfold rmI
  by_cases e : p.tmod b < 0
  · rw [if_pos e]; omega
  · rw [if_neg e]; omega
theorem pr3a (a b : Int) (w : World) : (part 3 #[.int .i64 a, .int .i64 b] 0).run Tryz.prog w = .ok (.int .i64 a) w := by kernel_rfl
theorem pr3b (a b : Int) (w : World) : (part 3 #[.int .i64 a, .int .i64 b] 1).run Tryz.prog w = .ok (.int .i64 b) w := by kernel_rfl
theorem undIr (w : World) : (underlying 3).run Tryz.prog w = .ok (.int .i64) w := by kernel_rfl
theorem eqIr (d : Nat) (a b : Int) (w : World) : (Op.equalIn (d + 1) 3 (.int .i64 a) (.int .i64 b)).run Tryz.prog w = .ok (a == b) w := by
  simp only [Op.equalIn, Sem.run_bind, undIr, Result.andThen]
  simp
theorem eqFr (d : Nat) (a b a' b' : Int) (w : World) {fs : List Field} (h : fs.map (fun f => (decide (f.name = "_"), f.type, f.offset)) = [(false, 3, 0), (false, 3, 1)]) :
    (Op.eqFields (d + 1) #[.int .i64 a, .int .i64 b] #[.int .i64 a', .int .i64 b'] fs).run Tryz.prog w = .ok (a == a' && b == b') w := by
  match fs, h with
  | [], h => simp at h
  | [_], h => simp at h
  | _ :: _ :: _ :: _, h => simp at h
  | [f, g], h =>
    simp at h
    obtain ⟨⟨h1, h2, h3⟩, h4, h5, h6⟩ := h
    by_cases e1 : a = a'
    · by_cases e2 : b = b'
      · simp [Op.eqFields, Sem.run_bind, h1, h2, h3, h4, h5, h6, pr3a, pr3b, eqIr, e1, e2]
      · simp [Op.eqFields, Sem.run_bind, h1, h2, h3, h4, h5, h6, pr3a, pr3b, eqIr, e1, e2]
    · simp [Op.eqFields, Sem.run_bind, h1, h2, h3, h4, h5, h6, pr3a, pr3b, eqIr, e1]
theorem eqN2 (a b c d : Int) (r : Bool) (h : (a == c && b == d) = r) (w : World) : (Op.equalIn 10000 44 (.agg #[.int .i64 a, .int .i64 b]) (.agg #[.int .i64 c, .int .i64 d])).run Tryz.prog w = .ok r w := by
  rw [show (10000 : Nat) = 9998 + 1 + 1 from rfl, run_equalIn_struct w (9998 + 1) 44 _ _ (by kernel_rfl) (by kernel_rfl), ← h]
  exact eqFr 9998 a b c d w (by kernel_rfl)
theorem rows_in (l : List Int) : rowsV inV l = l.map fun x => Value.int .i64 x := by
  induction l with
  | nil => rfl
  | cons x l ih => simp [rowsV, inV] at ih ⊢; exact ih
theorem rows_set_in (v : Int) (zs : List Value) (l : List Int) (g : Nat) (h : g < l.length) : (rowsV inV l ++ zs).set g (.int .i64 v) = rowsV inV (l.set g v) ++ zs := by
  rw [rows_in, rows_in, List.set_append_left _ _ (by simpa using h), List.map_set]
theorem box_slI {X : World} {b : Nat} {t : TypeId} {l : List Int} {zs : List Value} (h : BoxN X b t (rowsV inV l ++ zs)) : SlRows inV 1 X (some ⟨b, 0, none⟩) l := by
  refine Or.inr ⟨b, 0, rfl, h.lt, fun k hk i hi => ?_⟩
  obtain rfl : i = 0 := by omega
  rw [show 0 + k * 1 + 0 = k by omega]
  refine (BoxN.blk (N := 0) h (Nat.zero_le _)).at' k _ ?_
  rw [rows_in, List.getElem?_append_left (by simpa using hk), List.getElem?_map, List.getElem?_eq_getElem hk]
  rfl
theorem own_boxI {X : World} {N n c : Nat} {C : Option Addr} {e : TypeId} {l : List Int} (h : X.ownsRow N e 1 (.slice C n c) n (rowsV inV l)) (h0 : 0 < n) : ∃ mb zs, C = some ⟨mb, 0, none⟩ ∧ N ≤ mb ∧ BoxN X mb e (rowsV inV l ++ zs) := by
  rcases h.2 with ⟨_, h1⟩ | ⟨g, cap, cur, h1, h2, h3, _, _, _, h7⟩
  · omega
  · cases h1
    refine ⟨g, cur.toList.drop (n * 1), rfl, h2, ?_⟩
    show X.heap[g]? = some (.cells (rowsV inV l ++ cur.toList.drop (n * 1)).toArray e (0, 0))
    rw [← h7, List.take_append_drop]
    simpa using h3
theorem sl_low {α : Type} {f : α → List Value} {n b o M : Nat} {u u' : World} {L : List α} (h : SlRows f n u (some ⟨b, o, none⟩) L) (hb : Below M u u') (hm : b < M) : SlRows f n u' (some ⟨b, o, none⟩) L := by
  rcases h with h | ⟨c, off, e, hl, hR⟩
  · exact Or.inl h
  · cases e
    exact Or.inr ⟨b, o, rfl, Nat.lt_of_lt_of_le hl hb.size, fun k hk i hi => (World.cell?_of_block (a := ⟨b, _, none⟩) (hb.block b hm)).trans (hR k hk i hi)⟩
theorem sl_nv {X : World} {b : Nat} {l : List (Int × Int)} (h : SlRows nvV 2 X (some ⟨b, 0, none⟩) l) {g : Nat} (hg : g < l.length) {a z : Int} (ha : (l.getD g (0, -1)).1 = a) (hz : (l.getD g (0, -1)).2 = z) :
    X.cell? ⟨b, g * 2, none⟩ = some (.int .i64 a) ∧ X.cell? ⟨b, g * 2 + 1, none⟩ = some (.int .i64 z) := by
  rcases h with h | ⟨c, o, e, _, hR⟩
  · rw [h] at hg; simp at hg
  · cases e
    have e3 : l[g] = l.getD g (0, -1) := by rw [List.getD_eq_getElem?_getD, List.getElem?_eq_getElem hg]; rfl
    have k0 := hR g hg 0 (by omega)
    have k1 := hR g hg 1 (by omega)
    rw [show 0 + g * 2 + 0 = g * 2 by omega, e3] at k0
    rw [show 0 + g * 2 + 1 = g * 2 + 1 by omega, e3] at k1
    rw [← ha, ← hz]
    exact ⟨k0, k1⟩
theorem map_getD1 {l : List (Int × Int)} {g : Nat} (h : g < l.length) : (l.map (fun x => x.1)).getD g 0 = (l.getD g (0, -1)).1 := by
  rw [List.getD_eq_getElem?_getD, List.getD_eq_getElem?_getD, List.getElem?_map, List.getElem?_eq_getElem h]
  rfl
theorem getD_setI {l : List Int} {g j : Nat} {v : Int} (h : g < l.length) : (l.set g v).getD j 0 = if j = g then v else l.getD j 0 := by
  by_cases e : j = g
  · subst e
    rw [if_pos rfl, List.getD_eq_getElem?_getD, List.getElem?_set_self h]
    rfl
  · rw [if_neg e, List.getD_eq_getElem?_getD, List.getElem?_set_ne (fun x => e x.symm), ← List.getD_eq_getElem?_getD]
section
variable {gF : Nat → Nat} {vF sF : Nat → Int} {gn NN : Nat} {l : List (Int × Int)}
def RvC (gF : Nat → Nat) (vF sF : Nat → Int) (gn NN : Nat) (l : List (Int × Int)) : Prop := ∀ g, g < gn → 0 ≤ (l.getD g (0, -1)).1 ∧ (∀ j, j < NN → gF j = g → vF j ≤ (l.getD g (0, -1)).1) ∧ (0 < (l.getD g (0, -1)).1 → ∃ k, k < NN ∧ gF k = g ∧ vF k = (l.getD g (0, -1)).1 ∧ sF k = (l.getD g (0, -1)).2 ∧ ∀ j, j < k → gF j = g → vF j < (l.getD g (0, -1)).1)
theorem rva_am (hl : l.length = gn) (hc : RvC gF vF sF gn NN l) (h : ∀ j, j < gn → (l.getD j (0, -1)).1 ≤ 1000000000) : amE (l.map (fun x => x.1)) gn = 0 := by
  unfold amE
  rw [if_pos (by simpa using hl), if_pos (amAll_t fun j hj => ?_)]
  have hj2 : j < l.length := by simpa using hj
  have e : (l.map (fun x => x.1))[j] = (l.getD j (0, -1)).1 := by rw [← map_getD1 hj2, List.getD_eq_getElem?_getD, List.getElem?_eq_getElem hj]; rfl
  rw [e]
  exact inB_iff.2 ⟨(hc j (by omega)).1, h j (by omega)⟩
theorem rva_le (hl : l.length = gn) (hc : RvC gF vF sF gn NN l) (hg : ∀ i, i < NN → gF i < gn) : ∀ j, j < NN → vF j ≤ (l.map (fun x => x.1)).getD (gF j) 0 := fun j hj => by
  rw [map_getD1 (by have := hg j hj; omega)]
  exact (hc _ (hg j hj)).2.1 j hj rfl
theorem rva_less (hl : l.length = gn) (hc : RvC gF vF sF gn NN l) (hg : ∀ i, i < NN → gF i < gn) (h9 : ∀ j, j < gn → (l.getD j (0, -1)).1 ≤ 1000000000) {g : Nat} (hgg : g < gn) {a z : Int} (ha : (l.getD g (0, -1)).1 = a) (hz : (l.getD g (0, -1)).2 = z) (h0 : 0 < a) :
    ∃ k, k < NN ∧ sF k = z ∧ (∀ j, j < k → vF j ≤ ((l.map (fun x => x.1)).set g (a - 1)).getD (gF j) 0) ∧ ((l.map (fun x => x.1)).set g (a - 1)).getD (gF k) 0 < vF k ∧ amE ((l.map (fun x => x.1)).set g (a - 1)) gn = 0 := by
  have hgl : g < (l.map (fun x => x.1)).length := by simp; omega
  obtain ⟨_, _, h3⟩ := hc g hgg
  rw [ha, hz] at h3
  obtain ⟨k, hk, k1, k2, k3, k4⟩ := h3 h0
  refine ⟨k, hk, k3, fun j hj => ?_, ?_, ?_⟩
  · rw [getD_setI hgl]
    by_cases e : gF j = g
    · rw [if_pos e]; have := k4 j hj e; omega
    · rw [if_neg e]; exact rva_le hl hc hg j (by omega)
  · rw [getD_setI hgl, if_pos k1, k2]; omega
  · have hA := rva_am hl hc h9
    unfold amE at hA ⊢
    rw [if_pos (by simpa using hl)] at hA
    rw [if_pos (by simpa using hl), if_pos (amAll_t fun j hj => ?_)]
    have hj2 : j < (l.map (fun x => x.1)).length := by simpa using hj
    have e : ((l.map (fun x => x.1)).set g (a - 1))[j] = ((l.map (fun x => x.1)).set g (a - 1)).getD j 0 := by rw [List.getD_eq_getElem?_getD, List.getElem?_eq_getElem hj]; rfl
    rw [e, getD_setI hgl]
    have hjl : j < l.length := by simpa using hj2
    by_cases e2 : j = g
    · rw [if_pos e2]
      have := h9 g hgg
      rw [ha] at this
      exact inB_iff.2 ⟨by omega, by omega⟩
    · rw [if_neg e2, map_getD1 hjl]
      exact inB_iff.2 ⟨(hc j (by omega)).1, h9 j (by omega)⟩
end
end Go.Proofs.YtijdphlejokijaaGreat
