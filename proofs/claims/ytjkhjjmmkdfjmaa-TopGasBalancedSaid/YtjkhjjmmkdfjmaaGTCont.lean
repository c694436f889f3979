import Derived.Test.YtjkhjjmmkdfjmaaGTRmEnt
import Derived.Test.YtjkhjjmmkdfjmaaGTBeh2
import Derived.Outline
namespace Go.Proofs.Ytjkhjjmmkdfjmaa
open Go.ChangeShapes Go.WideShapes Go.ChangeAt Go.RowKit
set_option linter.unusedVariables false
set_option linter.unusedSimpArgs false
attribute [local go_sem ↓] Go.wp_at_zero Go.wp_at_succ
theorem own_belowM {w w' : World} {base N : Nat} {e : TypeId} {s n : Nat} {v : Value} {xs : List Value} (h : w.ownsRow base e s v n xs) (hb : Below N w w') (hN : w.heap.size ≤ N) : w'.ownsRow base e s v n xs := by
  refine ⟨h.1, ?_⟩
  rcases h.2 with hn | ⟨g, cap, cur, rfl, hg, hgg, rest⟩
  · exact .inl hn
  · refine .inr ⟨g, cap, cur, rfl, hg, ?_, rest⟩
    rw [hb.block g (Nat.lt_of_lt_of_le (Array.getElem?_eq_some_iff.1 hgg).1 hN)]
    exact hgg
theorem infoMC : (Try.prog.info? 49).map (fun i => (i.zero, i.size, i.bytes)) = some (some (.agg #[.int .i64 0, .int .i64 0, .int .i64 0]), 3, 24) := by kernel_rfl
theorem rowsV_snocM {α : Type} (f : α → List Value) {L : List α} {k : Nat} (hk : k < L.length) : rowsV f (L.take (k + 1)) = rowsV f (L.take k) ++ f L[k] := by
  unfold rowsV; rw [List.take_succ_eq_append_getElem hk, List.flatMap_append]; simp
/-- The sums of fills, or their error. -/
def SumP (r : Rm) (E : Int) (w : World) (e : Ending) (w' : World) : Prop := ((¬ E = 0 ∧ e = .returned (.tuple #[.agg #[.int .i64 0, .int .i64 0, .int .i64 0, .int .i64 0, .int .i64 0, .int .i64 0], .int .i64 E])) ∨ (E = 0 ∧ e = .returned (.tuple #[.agg #[.int .i64 r.g0, .int .i64 r.g1, .int .i64 r.g2, .int .i64 r.k0, .int .i64 r.k1, .int .i64 r.k2], .int .i64 0]))) ∧ Below w.heap.size w w'
/-- The contents behind fills, or their error. -/
def ContP (r : Rm) (E : Int) (w : World) (e : Ending) (w' : World) : Prop := ((¬ E = 0 ∧ e = .returned (.tuple #[.slice none 0 0, .int .i64 E])) ∨ (E = 0 ∧ ∃ A n cap, e = .returned (.tuple #[.slice A n cap, .int .i64 0]) ∧ n = r.H.length ∧ SlRows ctC 3 w' A r.H)) ∧ Below w.heap.size w w'
set_option maxRecDepth 100000 in
set_option maxHeartbeats 2000000 in
theorem Sums_any (L : List Ve) (A : Option Addr) (cap n : Nat) (X : List Fl) (fA : Option Addr) (fcap m : Nat) (N : Nat) (E : Int) (r : Rm) (w : World) (hlen : Hid (n = L.length)) (hl : n ≤ 1000000) (hsz : Hid (∀ g ∈ L, g.nm.size ≤ 1000000)) (hL : Hid (SlRows veV 3 w A L)) (hm : Hid (m = X.length)) (hX : Hid (SlRows flV 8 w fA X)) (hD : Hid (behP L X = (N, E))) (hr : Hid (runR (rm0 L) X = r)) : Calls Try.prog 24 #[.slice A n cap, .slice fA m fcap] w (SumP r E w) := by
  go_enter Try.func24, Try.ntmps24
  go_wp2_with fail
  refine (behind_any L A cap n X fA fcap m N E r _ hlen hl hsz (Lib.hid (hL.out.below ((Below.refl _ _).alloc (Nat.le_refl _) _))) hm (Lib.hid (hX.out.below ((Below.refl _ _).alloc (Nat.le_refl _) _))) hD hr).mono ?_
  rintro e x1 (⟨hz, rfl, hb⟩ | ⟨hz, A', vb, cap', n', rfl, hn', hv, hb⟩)
  · have z1 := hb.size
    try simp at z1
    obtain ⟨c0, c1, c2, c3, c4, c5⟩ : x1.cell? ⟨w.heap.size, 0, none⟩ = some (.int .i64 0) ∧ x1.cell? ⟨w.heap.size, 1, none⟩ = some (.int .i64 0) ∧ x1.cell? ⟨w.heap.size, 2, none⟩ = some (.int .i64 0) ∧ x1.cell? ⟨w.heap.size, 3, none⟩ = some (.int .i64 0) ∧ x1.cell? ⟨w.heap.size, 4, none⟩ = some (.int .i64 0) ∧ x1.cell? ⟨w.heap.size, 5, none⟩ = some (.int .i64 0) := by refine ⟨?_, ?_, ?_, ?_, ?_, ?_⟩ <;> (rw [(bcell hb).1 _ _ (by simp)]; simp [go_sem])
    have cf : ∀ j, x1.frozen? ⟨w.heap.size, j, none⟩ = false := fun j => by rw [(bcell hb).2 _ _ (by simp)]; simp [go_sem]
    have hB : Below w.heap.size w x1 := ((Below.refl w.heap.size w).alloc (Nat.le_refl _) _).trans (hb.mono (by simp))
    have hz1 : (E != 0) = true := by simpa using hz
    have HB := Lib.hid hB
    clear hb hB
    have o1 : w.heap.size < x1.heap.size := by omega
    go_wp2
    refine bodyPost_ret (v := .tuple #[.agg #[.int .i64 0, .int .i64 0, .int .i64 0, .int .i64 0, .int .i64 0, .int .i64 0], .int .i64 E]) (by simp [results, Try.results24, go_sem, cP, *]) rfl ⟨Or.inl ⟨hz, rfl⟩, ?_⟩
    exact HB.out.trans (show Below w.heap.size x1 _ from belA)
  · subst hz
    have z1 := hb.size
    try simp at z1
    obtain ⟨c0, c1, c2, c3, c4, c5⟩ : x1.cell? ⟨w.heap.size, 0, none⟩ = some (.int .i64 0) ∧ x1.cell? ⟨w.heap.size, 1, none⟩ = some (.int .i64 0) ∧ x1.cell? ⟨w.heap.size, 2, none⟩ = some (.int .i64 0) ∧ x1.cell? ⟨w.heap.size, 3, none⟩ = some (.int .i64 0) ∧ x1.cell? ⟨w.heap.size, 4, none⟩ = some (.int .i64 0) ∧ x1.cell? ⟨w.heap.size, 5, none⟩ = some (.int .i64 0) := by refine ⟨?_, ?_, ?_, ?_, ?_, ?_⟩ <;> (rw [(bcell hb).1 _ _ (by simp)]; simp [go_sem])
    have cf : ∀ j, x1.frozen? ⟨w.heap.size, j, none⟩ = false := fun j => by rw [(bcell hb).2 _ _ (by simp)]; simp [go_sem]
    have hB : Below w.heap.size w x1 := ((Below.refl w.heap.size w).alloc (Nat.le_refl _) _).trans (hb.mono (by simp))
    have HB := Lib.hid hB
    have o1 : w.heap.size < x1.heap.size := by omega
    clear hb hB hv
    go_wp2
    refine bodyPost_ret (v := .tuple #[.agg #[.int .i64 r.g0, .int .i64 r.g1, .int .i64 r.g2, .int .i64 r.k0, .int .i64 r.k1, .int .i64 r.k2], .int .i64 0]) (by simp [results, Try.results24, go_sem, cP, *]) rfl ⟨Or.inr ⟨rfl, rfl⟩, ?_⟩
    exact HB.out.trans (show Below w.heap.size x1 _ from belA)
set_option maxRecDepth 100000 in
set_option maxHeartbeats 4000000 in
theorem Contents_any (L : List Ve) (A : Option Addr) (cap n : Nat) (X : List Fl) (fA : Option Addr) (fcap m : Nat) (N : Nat) (E : Int) (r : Rm) (w : World) (hlen : Hid (n = L.length)) (hl : n ≤ 1000000) (hsz : Hid (∀ g ∈ L, g.nm.size ≤ 1000000)) (hL : Hid (SlRows veV 3 w A L)) (hm : Hid (m = X.length)) (hX : Hid (SlRows flV 8 w fA X)) (hD : Hid (behP L X = (N, E))) (hr : Hid (runR (rm0 L) X = r)) (hrl : E = 0 → r.H.length ≤ 1000) : Calls Try.prog 23 #[.slice A n cap, .slice fA m fcap] w (ContP r E w) := by
  obtain ⟨i0, hi, hz0, hz1, hz2⟩ := info_partsF infoMC
  have HI := Lib.hid hi
  have HZ0 := Lib.hid hz0
  have HZ1 := Lib.hid hz1
  have HZ2 := Lib.hid hz2
  clear hi hz0 hz1 hz2
  go_enter Try.func23, Try.ntmps23
  go_wp2_with fail
  refine (behind_any L A cap n X fA fcap m N E r _ hlen hl hsz hL hm hX hD hr).mono ?_
  rintro e x1 (⟨hz, rfl, hb⟩ | ⟨hz, A', vb, cap', n', rfl, hn', hv, hb⟩)
  · have hz1 : (E != 0) = true := by simpa using hz
    have HB := Lib.hid hb
    clear hb
    go_wp2
    go_ret2
    exact ⟨Or.inl ⟨hz, rfl⟩, HB.out.trans ((show Below x1.heap.size x1 _ from belA).mono HB.out.size)⟩
  · subst hz
    have HV := Lib.hid hv
    have HB := Lib.hid hb
    have HN := Lib.hid hn'
    have hn1 : n' ≤ 1000 := by rw [hn']; exact hrl rfl
    clear hv hb hn'
    go_wp2
    go_loopw [9, 25] (fun t i wr => ∃ (k : Nat) (V : Value), i = .int .i64 k ∧ k ≤ n' ∧ t = V ∧ Hid (wr.ownsRow x1.heap.size 49 3 V k (rowsV ctC (r.H.take k))) ∧ Below x1.heap.size x1 wr) (fun _ i _ => n' - (intOf i).toNat)
    case atStart => exact ⟨0, .slice none 0 0, rfl, by omega, rfl, Lib.hid ⟨rfl, .inl ⟨rfl, rfl⟩⟩, belA⟩
    case round =>
      obtain ⟨k, V, rfl, hk, rfl, HO, hB⟩ := hrel
      have hsw := hB.size
      by_cases hkn : k < n'
      · have kn : (k : Int) < (n' : Int) := by omega
        have hkH : k < r.H.length := by have := HN.out; omega
        obtain ⟨eA, hvb, hvl, hR⟩ : A' = some ⟨vb, 0, none⟩ ∧ w.heap.size ≤ vb ∧ vb < x1.heap.size ∧ RowsAt hdV 6 x1 vb 0 r.H := by
          rcases HV.out with h | h
          · rw [h] at hkH; simp at hkH
          · exact h
        subst eA
        have q := fun i hi => (hB.cell (p := ⟨vb, 0 + k * 6 + i, none⟩) hvl).trans (hR k hkH i hi)
        simp only [Nat.zero_add] at q
        have q0 := q 0 (by omega)
        have q1 := q 1 (by omega)
        have q2 := q 2 (by omega)
        have q3 := q 3 (by omega)
        have q4 := q 4 (by omega)
        have q5 := q 5 (by omega)
        have HX9 : Hid (ctC r.H[k] = ctC r.H[k]) := Lib.hid rfl
        obtain ⟨g, hg⟩ : ∃ g, Hid (r.H[k] = g) := ⟨_, Lib.hid rfl⟩
        have HRS := Lib.hid (rowsV_snocM ctC hkH)
        rw [hg.out] at q0 q1 q2 q3 q4 q5 HRS
        simp only [hdV, List.getElem?_cons_zero, List.getElem?_cons_succ, Nat.add_zero] at q0 q1 q2 q3 q4 q5
        have nv : vb ≠ wr.heap.size := by omega
        have lv : vb < wr.heap.size := by omega
        clear q hR HX9
        go_wp2_with (at_builtin; refine wpList_append_own_at _ rfl _ _ 45 rfl x1.heap.size 49 i0 (.agg #[.int .i64 0, .int .i64 0, .int .i64 0]) 3 24 Try.underlying45 HI.out HZ0.out HZ1.out HZ2.out rfl (by decide) _ _ _ rfl (own_belowM (N := wr.heap.size) HO.out (by exact belA) (Nat.le_refl _)) ⟨wr.heap.size + 1, 0, none⟩ 1 1 [.int .i64 g.a, .int .i64 g.b, .int .i64 g.c] rfl rfl ?b0 ?b1 ?b2 ?b3 ?b4 ?_)
        case b1 => exact ⟨rfl, rfl, rfl⟩
        case b2 => unfold maxLen; omega
        case b3 => omega
        case b4 => first | omega | (simp; omega)
        intro v' x5 hown hgrow hnn hblk
        have hB5 : Below x1.heap.size x1 x5 := Below.grown (by exact belA) hgrow (by simp; omega) (fun r hr => own_blockF HO.out r hr)
        have HO5 : Hid (x5.ownsRow x1.heap.size 49 3 v' (k + 1) (rowsV ctC (r.H.take (k + 1)))) := Lib.hid (by rw [HRS.out]; exact hown)
        clear hown hgrow hnn hblk
        go_wp2
        go_roundw
        case rel => exact ⟨k + 1, v', by go_num, by omega, rfl, HO5, hB5⟩
        case measure => simp [intOf]; omega
      · have hkk : k = n' := by omega
        have kn : ¬ (k : Int) < (n' : Int) := by omega
        obtain ⟨G, cg, hG, hS, _⟩ := SlRows_own (f := ctC) (n := 3) (L := r.H) (fun _ => rfl) (by have h := HO.out; rw [List.take_of_length_le (by have := HN.out; omega), hkk, HN.out] at h; exact h)
        subst hG
        have HS := Lib.hid hS
        clear hS
        go_wp2
        go_ret2
        exact ⟨Or.inr ⟨rfl, G, _, cg, rfl, rfl, HS.out⟩, HB.out.trans (hB.mono HB.out.size)⟩
end Go.Proofs.Ytjkhjjmmkdfjmaa
