import Derived.Test.YtojaompfffpofaaGreatZCSWay
import Derived.Outline
namespace Go.Proofs.YtojaompfffpofaaGreat
set_option linter.unusedVariables false
set_option linter.unusedSimpArgs false
/-- The minutes of a step; whether a list of places is a way; its minutes; its first and last place. -/
def stp (M : List (List Int)) (a b : Int) : Int := mAt M a.toNat b.toNat
def wOk (M : List (List Int)) : List Int → Prop
  | a :: b :: r => 0 ≤ stp M a b ∧ wOk M (b :: r)
  | _ => True
def wSum (M : List (List Int)) : List Int → Int
  | a :: b :: r => stp M a b + wSum M (b :: r)
  | _ => 0
def lastI : List Int → Int
  | [] => 0
  | [a] => a
  | _ :: b :: r => lastI (b :: r)
def headI : List Int → Int
  | [] => 0
  | a :: _ => a
theorem wOk_app (M : List (List Int)) (a : Int) (r : List Int) : ∀ xs : List Int, wOk M (xs ++ a :: r) ↔ wOk M (xs ++ [a]) ∧ wOk M (a :: r)
  | [] => by simp [wOk]
  | [x] => by simp [wOk]
  | x :: y :: ys => by
    have ih := wOk_app M a r (y :: ys)
    simp only [List.cons_append, wOk] at ih ⊢
    rw [ih]
    exact ⟨fun h => ⟨⟨h.1, h.2.1⟩, h.2.2⟩, fun h => ⟨h.1.1, h.1.2, h.2⟩⟩
theorem wSum_app (M : List (List Int)) (a : Int) (r : List Int) : ∀ xs : List Int, wSum M (xs ++ a :: r) = wSum M (xs ++ [a]) + wSum M (a :: r)
  | [] => by simp [wSum]
  | [x] => by simp [wSum]
  | x :: y :: ys => by
    have ih := wSum_app M a r (y :: ys)
    simp only [List.cons_append, wSum] at ih ⊢
    rw [ih]; omega
theorem wSum_nn {M : List (List Int)} : ∀ {l : List Int}, wOk M l → 0 ≤ wSum M l
  | [], _ => by simp [wSum]
  | [a], _ => by simp [wSum]
  | a :: b :: r, h => by
    have := wSum_nn h.2
    have := h.1
    simp only [wSum]; omega
theorem lastI_app (a : Int) (r : List Int) : ∀ xs : List Int, lastI (xs ++ a :: r) = lastI (a :: r)
  | [] => rfl
  | [x] => rfl
  | x :: y :: ys => by
    have ih := lastI_app a r (y :: ys)
    simpa only [List.cons_append, lastI] using ih
theorem headI_app (a : Int) (r s : List Int) (xs : List Int) : headI (xs ++ a :: r) = headI (xs ++ a :: s) := by cases xs <;> rfl
theorem lastI_getD : ∀ l : List Int, lastI l = l.getD (l.length - 1) 0
  | [] => rfl
  | [a] => rfl
  | a :: b :: r => by
    rw [lastI, lastI_getD (b :: r)]
    simp
theorem headI_getD (l : List Int) : headI l = l.getD 0 0 := by cases l <;> rfl
/-- A place was reached in so many minutes at most. -/
def LeB (T : List Tp) (k : Nat) (v : Int) : Prop := (T.getD k default).ps ≠ [] ∧ (T.getD k default).mi ≤ v
theorem gTake_iff {T : List Tp} {b t : Nat} {m : Int} : gTake T b t m = true ↔ m ≠ -1 ∧ ((T.getD t default).ps = [] ∨ (T.getD b default).mi + m < (T.getD t default).mi) := by
  unfold gTake
  rw [Bool.and_eq_true, Bool.or_eq_true, decide_eq_true_eq, List.isEmpty_iff]
  have : (!(m == -1)) = true ↔ m ≠ -1 := by simp
  rw [this]
theorem LeB.step {T : List Tp} {b t k : Nat} {m v : Int} (ht : t < T.length) (h : LeB T k v) : LeB (gStep T b t m) k v := by
  refine ⟨gStep_ne ht h.1, ?_⟩
  unfold gStep
  split
  · rename_i hk
    by_cases e : t = k
    · subst e
      rw [getD_set_eq ht]
      rcases (gTake_iff.1 hk).2 with h9 | h9
      · exact absurd h9 h.1
      · have := h.2
        show (T.getD b default).mi + m ≤ v
        omega
    · rw [getD_set_ne e]; exact h.2
  · exact h.2
theorem LeB.row {T : List Tp} {b k : Nat} {R : List Int} {v : Int} (h : LeB T k v) : ∀ j, j ≤ T.length → LeB (gRow T b R j) k v
  | 0, _ => h
  | j + 1, hj => LeB.step (by rw [gRow_len]; omega) (LeB.row h j (by omega))
theorem LeB.on {T : List Tp} {b k : Nat} {R : List Int} {v : Int} (hR : R.length ≤ T.length) (h : LeB T k v) : LeB (gOn T b R) k v := by
  unfold gOn
  split
  · exact h
  · exact h.row _ hR
theorem LeB.all {T : List Tp} {M : List (List Int)} {n q : Nat} {v : Int} (hT : T.length = n) (hM : ∀ i, i < n → (M.getD i []).length = n) (h : LeB T q v) : ∀ k, k ≤ n → LeB (gAll T M k) q v
  | 0, _ => h
  | k + 1, hk => LeB.on (by rw [gAll_len, hT, hM k (by omega)]; exact Nat.le_refl _) (LeB.all hT hM h k (by omega))
theorem LeB.rnd {T : List Tp} {M : List (List Int)} {n q : Nat} {v : Int} (hT : T.length = n) (hM : ∀ i, i < n → (M.getD i []).length = n) (h : LeB T q v) : ∀ r, LeB (gRnd T M n r) q v
  | 0 => h
  | r + 1 => LeB.all (by rw [gRnd_len, hT]) hM (LeB.rnd hT hM h r) n (Nat.le_refl _)
theorem LeB.zero {n f : Nat} (hf : f < n) : LeB (gZero n f) f 0 := by
  unfold LeB gZero
  rw [getD_set_eq (by simpa using hf)]
  exact ⟨by simp, Int.le_refl _⟩
/-- A list with no number twice, of numbers below n, is at most as long. -/
theorem pigeon : ∀ (n : Nat) (l : List Int), l.Nodup → (∀ x ∈ l, 0 ≤ x ∧ x < (n : Int)) → l.length ≤ n
  | 0, l, _, h => by
    cases l with
    | nil => simp
    | cons a r => have := h a (by simp); omega
  | n + 1, l, hd, h => by
    by_cases hn : (n : Int) ∈ l
    · have ih := pigeon n (l.erase (n : Int)) (hd.erase _) (fun x hx => by
        have hm := (hd.mem_erase_iff).1 hx
        have := h x hm.2
        have := hm.1
        omega)
      rw [List.length_erase_of_mem hn] at ih
      omega
    · have ih := pigeon n l hd (fun x hx => by
        have := h x hx
        have : x ≠ (n : Int) := fun e => hn (e ▸ hx)
        omega)
      omega
/-- Every way that stands is a way, its places were reached on it. -/
structure WyOk (M : List (List Int)) (n f : Nat) (T : List Tp) (t : Nat) (P : List Int) (mi : Int) : Prop where
  hd : headI P = (f : Int)
  ls : lastI P = (t : Int)
  bd : ∀ x ∈ P, 0 ≤ x ∧ x < (n : Int)
  ok : wOk M P
  mi : mi = wSum M P
  nd : P.Nodup
  pre : ∀ xs a ys, P = xs ++ a :: ys → LeB T a.toNat (wSum M (xs ++ [a]))
def GInv (M : List (List Int)) (n f : Nat) (T : List Tp) : Prop := T.length = n ∧ ∀ t, t < n → (T.getD t default).ps ≠ [] → WyOk M n f T t (T.getD t default).ps (T.getD t default).mi
theorem GInv.step {M : List (List Int)} {n f : Nat} {T : List Tp} (h : GInv M n f T) {b t : Nat} {m : Int} (hb : b < n) (ht : t < n) (hm : m = mAt M b t) (h1 : -1 ≤ m) (hp : (T.getD b default).ps ≠ []) : GInv M n f (gStep T b t m) := by
  have htl : t < T.length := by rw [h.1]; exact ht
  refine ⟨by rw [gStep_len]; exact h.1, fun q hq hne => ?_⟩
  have mono : ∀ k v, LeB T k v → LeB (gStep T b t m) k v := fun k v hk => hk.step htl
  by_cases hk : gTake T b t m = true
  · by_cases e : t = q
    · subst e
      have hG : (gStep T b t m).getD t default = ⟨(T.getD b default).ps ++ [(t : Int)], (T.getD b default).mi + m⟩ := by
        unfold gStep; rw [if_pos hk, getD_set_eq htl]
      have hB := h.2 b hb hp
      have hm0 : 0 ≤ m := by
        have := (gTake_iff.1 hk).1
        omega
      obtain ⟨xs0, c, hxc⟩ : ∃ xs c, (T.getD b default).ps = xs ++ [c] := by
        rcases List.eq_nil_or_concat (T.getD b default).ps with e | ⟨p, c, e⟩
        · exact absurd e hp
        · exact ⟨p, c, by rw [e, List.concat_eq_append]⟩
      have hcb : c = (b : Int) := by
        have := hB.ls
        rw [hxc, lastI_app] at this
        exact this
      have hsp : wSum M ((T.getD b default).ps ++ [(t : Int)]) = (T.getD b default).mi + m := by
        rw [hB.mi, hxc, List.append_assoc]
        show wSum M (xs0 ++ c :: [(t : Int)]) = _
        rw [wSum_app]
        have : wSum M [c, (t : Int)] = m := by simp [wSum, stp, hcb, hm]
        rw [this]
      have hok2 : wOk M ((T.getD b default).ps ++ [(t : Int)]) := by
        have h9 := hB.ok
        rw [hxc] at h9 ⊢
        rw [List.append_assoc]
        exact (wOk_app M c [(t : Int)] xs0).2 ⟨h9, by simp only [wOk]; exact ⟨by unfold stp; rw [hcb]; simpa using (hm ▸ hm0), trivial⟩⟩
      have hnin : ¬ (t : Int) ∈ (T.getD b default).ps := by
        intro hmem
        obtain ⟨xs, ys, e⟩ := List.append_of_mem hmem
        have hL := hB.pre xs (t : Int) ys e
        rw [show ((t : Int)).toNat = t from rfl] at hL
        have hs : wSum M (xs ++ [(t : Int)]) ≤ (T.getD b default).mi := by
          rw [hB.mi, e, wSum_app M (t : Int) ys xs]
          have h9 := hB.ok
          rw [e] at h9
          have := wSum_nn ((wOk_app M (t : Int) ys xs).1 h9).2
          omega
        rcases (gTake_iff.1 hk).2 with h9 | h9
        · exact hL.1 h9
        · have := hL.2
          omega
      rw [hG]
      refine ⟨?_, ?_, fun x hx => ?_, hok2, hsp.symm, ?_, fun xs a ys e => ?_⟩
      · show headI ((T.getD b default).ps ++ [(t : Int)]) = _
        rw [← hB.hd, hxc, List.append_assoc]
        exact headI_app c _ _ xs0
      · exact lastI_app (t : Int) [] _
      · rcases List.mem_append.1 hx with h9 | h9
        · exact hB.bd x h9
        · have : x = (t : Int) := by simpa using h9
          omega
      · show ((T.getD b default).ps ++ [(t : Int)]).Nodup
        rw [List.nodup_append]
        refine ⟨hB.nd, by simp, fun x hx y hy e => ?_⟩
        have : y = (t : Int) := by simpa using hy
        exact hnin (this ▸ e ▸ hx)
      · rcases List.eq_nil_or_concat ys with e2 | ⟨zs, z, e2⟩
        · subst e2
          obtain ⟨e3, e4⟩ := List.append_inj' e rfl
          have e5 : (t : Int) = a := by simpa using e4
          rw [← e5, ← e3, hsp]
          refine ⟨?_, ?_⟩
          · rw [show ((t : Int)).toNat = t from rfl, hG]; simp
          · rw [show ((t : Int)).toNat = t from rfl, hG]; exact Int.le_refl _
        · rw [List.concat_eq_append] at e2
          subst e2
          have e6 : (T.getD b default).ps ++ [(t : Int)] = (xs ++ a :: zs) ++ [z] := by have e0 : (T.getD b default).ps ++ [(t : Int)] = xs ++ a :: (zs ++ [z]) := e; rw [e0]; simp
          obtain ⟨e3, e4⟩ := List.append_inj' e6 rfl
          exact mono _ _ (hB.pre xs a zs e3)
    · have hG : (gStep T b t m).getD q default = T.getD q default := by unfold gStep; rw [if_pos hk, getD_set_ne e]
      rw [hG] at hne ⊢
      have hB := h.2 q hq hne
      exact ⟨hB.hd, hB.ls, hB.bd, hB.ok, hB.mi, hB.nd, fun xs a ys e => mono _ _ (hB.pre xs a ys e)⟩
  · have hG : gStep T b t m = T := by unfold gStep; rw [if_neg hk]
    rw [hG] at hne ⊢
    exact h.2 q hq hne
theorem GInv.row {M : List (List Int)} {n f : Nat} {T : List Tp} (h : GInv M n f T) {b : Nat} (hb : b < n) (hM : ∀ j, -1 ≤ (M.getD b []).getD j 0) (hp : (T.getD b default).ps ≠ []) : ∀ k, k ≤ n → GInv M n f (gRow T b (M.getD b []) k)
  | 0, _ => h
  | k + 1, hk => GInv.step (GInv.row h hb hM hp k (by omega)) hb (by omega) rfl (hM k) (gRow_ne hp k (by rw [h.1]; omega))
theorem GInv.on {M : List (List Int)} {n f : Nat} {T : List Tp} (h : GInv M n f T) {b : Nat} (hb : b < n) (hM : ∀ j, -1 ≤ (M.getD b []).getD j 0) (hl : (M.getD b []).length = n) : GInv M n f (gOn T b (M.getD b [])) := by
  unfold gOn
  split
  · exact h
  · rename_i hp
    exact h.row hb hM (fun e => hp (isE_t e)) _ (Nat.le_of_eq hl)
theorem GInv.all {M : List (List Int)} {n f : Nat} {T : List Tp} (h : GInv M n f T) (hM : ∀ i, i < n → (∀ j, -1 ≤ (M.getD i []).getD j 0) ∧ (M.getD i []).length = n) : ∀ k, k ≤ n → GInv M n f (gAll T M k)
  | 0, _ => h
  | k + 1, hk => GInv.on (GInv.all h hM k (by omega)) (by omega) (hM k (by omega)).1 (hM k (by omega)).2
theorem GInv.rnd {M : List (List Int)} {n f : Nat} {T : List Tp} (h : GInv M n f T) (hM : ∀ i, i < n → (∀ j, -1 ≤ (M.getD i []).getD j 0) ∧ (M.getD i []).length = n) : ∀ r, GInv M n f (gRnd T M n r)
  | 0 => h
  | r + 1 => (GInv.rnd h hM r).all hM n (Nat.le_refl _)
theorem GInv.zero {M : List (List Int)} {n f : Nat} (hf : f < n) : GInv M n f (gZero n f) := by
  refine ⟨gZero_len n f, fun t ht hne => ?_⟩
  by_cases e : f = t
  · subst e
    have hG : (gZero n f).getD f default = ⟨[(f : Int)], 0⟩ := by unfold gZero; rw [getD_set_eq (by simpa using hf)]
    rw [hG]
    refine ⟨rfl, rfl, fun x hx => by have : x = (f : Int) := by simpa using hx
                                     omega, trivial, rfl, by simp, fun xs a ys e => ?_⟩
    cases xs with
    | nil =>
      have h9 : (f : Int) = a := by injection e
      rw [← h9, show ((f : Int)).toNat = f from rfl]
      exact LeB.zero hf
    | cons x r =>
      have h9 : ([] : List Int) = r ++ a :: ys := by injection e
      simp at h9
  · exfalso
    apply hne
    unfold gZero
    rw [getD_set_ne e, rep_getD]
/-- The ways that were found. -/
theorem way_found {Pl : List ByteArray} {M : List (List Int)} {n f t : Nat} (hn : n = Pl.length) (hM : ChOk Pl M) (hf : f < n) (ht : t < n) (hne : ((gRnd (gZero n f) M n n).getD t default).ps ≠ []) : WyOk M n f (gRnd (gZero n f) M n n) t ((gRnd (gZero n f) M n n).getD t default).ps ((gRnd (gZero n f) M n n).getD t default).mi :=
  ((GInv.zero hf).rnd (fun i hi => ⟨fun j => (row_bnd hM (by omega) j).1, by rw [hM.row i (by omega)]; omega⟩) n).2 t ht hne
end Go.Proofs.YtojaompfffpofaaGreat
