import Derived.Test.YtgidmmmdpmophaaRSFLeaf
import Derived.OrdersHeld
import Derived.Deep.RegionHeld
namespace Go.Proofs.Ytgidmmmdpmophaa
open Go
set_option linter.unusedVariables false
section
variable {P : Program} {ops : Array Oper} {Q : Exit → Act → World → Prop} {md : Region.Mode} {S : World → Prop} {z : Nat}

/-- Each operation but the last is waited for by a later one. -/
def chainB (md : Region.Mode) (ops : Array Oper) (z : Nat) : Bool :=
  (z + 1 == ops.size) && (List.range z).all fun i => (List.range (z + 1)).any fun s => decide (i < s) && ((ops[s]?.map fun o => o.after.any fun e => Region.binds md e && e.on == i).getD false)
/-- What has come up has come up behind what it waits for. -/
def okB (md : Region.Mode) (ops : Array Oper) (listed : Array Bool) : Bool :=
  (listed.size == ops.size) && (List.range ops.size).all fun s => !(listed.getD s true) || ((ops[s]?.map fun o => o.after.all fun e => !(Region.binds md e) || listed.getD e.on false).getD true)
def OkL (md : Region.Mode) (ops : Array Oper) (listed : Array Bool) : Prop :=
  listed.size = ops.size ∧ ∀ (s : Nat) (o : Oper), ops[s]? = some o → listed.getD s true = true → ∀ e ∈ o.after, Region.binds md e = true → listed.getD e.on false = true
theorem okL_of {listed : Array Bool} (h : okB md ops listed = true) : OkL md ops listed := by
  unfold okB at h
  simp only [Bool.and_eq_true, beq_iff_eq, List.all_eq_true, List.mem_range, Bool.or_eq_true, Bool.not_eq_true'] at h
  refine ⟨h.1, fun s o ho hs e he hb => ?_⟩
  have hlt : s < ops.size := (Array.getElem?_eq_some_iff.1 ho).1
  rcases h.2 s hlt with h' | h'
  · rw [hs] at h'; cases h'
  · rw [ho] at h'
    simp only [Option.map_some, Option.getD_some, Array.all_eq_true_iff_forall_mem, Bool.or_eq_true, Bool.not_eq_true'] at h'
    rcases h' e he with h'' | h''
    · rw [hb] at h''; cases h''
    · exact h''
theorem OkL.set {listed : Array Bool} {i : Nat} (h : OkL md ops listed) (hi : i ∈ Region.ready md ops listed) : OkL md ops (listed.setIfInBounds i true) := by
  refine ⟨by simpa using h.1, fun s o ho hs e he hb => ?_⟩
  by_cases hsi : i = s
  · subst hsi
    obtain ⟨_, o', ho', hall⟩ := mem_ready.1 hi
    rw [ho] at ho'; cases ho'
    exact getD_set_true (hall e he hb)
  · rw [getD_set_ne true hsi] at hs
    exact getD_set_true (h.2 s o ho hs e he hb)
theorem last_waits {listed : Array Bool} (hc : chainB md ops z = true) (hok : OkL md ops listed) : ∀ n i, z - i = n → i < z → listed.getD i true = false → z ∉ Region.ready md ops listed := by
  have hc' := hc
  unfold chainB at hc'
  simp only [Bool.and_eq_true, beq_iff_eq, List.all_eq_true, List.any_eq_true, List.mem_range, decide_eq_true_eq] at hc'
  intro n
  induction n using Nat.strongRecOn with
  | _ n ih =>
    intro i hn hiz hun hz
    obtain ⟨s, hs, his, hw⟩ := hc'.2 i hiz
    have hno : listed.getD i false ≠ true := by
      intro h
      have hlt : i < listed.size := by rw [hok.1]; omega
      simp only [Array.getD_eq_getD_getElem?, Array.getElem?_eq_getElem hlt, Option.getD_some] at h hun
      rw [hun] at h; cases h
    cases ho : ops[s]? with
    | none => rw [ho] at hw; simp at hw
    | some o =>
      rw [ho] at hw
      simp only [Option.map_some, Option.getD_some, Array.any_eq_true] at hw
      obtain ⟨k, hk, hkb⟩ := hw
      simp only [Bool.and_eq_true, beq_iff_eq] at hkb
      by_cases hsz : s = z
      · subst hsz
        obtain ⟨_, o', ho', hall⟩ := mem_ready.1 hz
        rw [ho] at ho'; cases ho'
        exact hno (hkb.2 ▸ hall _ (Array.getElem_mem hk) hkb.1)
      · refine ih (z - s) (by omega) s rfl (by omega) ?_ hz
        by_cases hl : listed.getD s true = true
        · exact absurd (hkb.2 ▸ hok.2 s o ho hl _ (Array.getElem_mem hk) hkb.1) hno
        · simpa using hl
/-- Whatever order is picked from here on, S holds behind every operation but the last, z. -/
def wpAnyZ (P : Program) (md : Region.Mode) (ops : Array Oper) (Q : Exit → Act → World → Prop) (S : World → Prop) (z : Nat) : Nat → Array Bool → Act → World → Prop
  | 0, _, _, _ => False
  | fuel + 1, listed, a, w => Region.ready md ops listed ≠ [] ∧
    ∀ i ∈ Region.ready md ops listed, wpOp P ops Q i (fun a' w' => if i = z then Q .normal a' w' else S w' ∧ wpAnyZ P md ops Q S z fuel (listed.setIfInBounds i true) a' w') a w
theorem wpAny_of_Z (hc : chainB md ops z = true) : ∀ (fuel : Nat) (listed : Array Bool) (a : Act) (w : World), OkL md ops listed → wpAnyZ P md ops Q S z fuel listed a w → wpAny P md ops Q fuel listed a w
  | 0, _, _, _, _, h => h.elim
  | fuel + 1, listed, a, w, hok, h => ⟨fun h0 => absurd h0 h.1, fun i hi => wpOp_mono (fun a' w' h' => by
      by_cases hiz : i = z
      · rw [if_pos hiz] at h'
        subst hiz
        have hnil : Region.ready md ops (listed.setIfInBounds i true) = [] := by
          rw [List.eq_nil_iff_forall_not_mem]
          intro j hj
          obtain ⟨hun, o, ho, _⟩ := mem_ready.1 hj
          have hlt : j < ops.size := (Array.getElem?_eq_some_iff.1 ho).1
          have hsz : i + 1 = ops.size := by
            unfold chainB at hc
            simp only [Bool.and_eq_true, beq_iff_eq] at hc
            exact hc.1
          have hli : i < listed.size := by rw [hok.1]; omega
          have hne : i ≠ j := by
            intro e
            subst e
            simp [hli] at hun
          rw [getD_set_ne true hne] at hun
          exact last_waits hc hok _ j rfl (by omega) hun hi
        cases fuel with
        | zero => exact ⟨hnil, h'⟩
        | succ n => exact ⟨fun _ => h', by rw [hnil]; simp⟩
      · rw [if_neg hiz] at h'
        exact wpAny_of_Z hc fuel _ a' w' (hok.set hi) h'.2) (h.2 i hi)⟩
theorem wpAnyZ_first {i : Nat} {oi : Oper} {v : Value} (hc : chainB md ops z = true) (hiz : i ≠ z) (hi : ops[i]? = some oi) (hsel : ∀ (j : Nat) (o : Oper) cs b, ops[j]? = some o → o.op ≠ .select cs b)
    (hQ : ∀ c a w, Q (.panic c) (a.put oi.dst v) w → Q (.panic c) a w) :
    ∀ (fuel : Nat) (listed : Array Bool) (a : Act) (w : World), OkL md ops listed →
      (∀ j oj, ops[j]? = some oj → j ≠ i → listed.getD j true = false → (∀ e ∈ oj.after, Region.binds md e = true → e.on ≠ i) → oi.apart ops oj = true) →
      i ∈ Region.ready md ops listed → YieldsIf P ops S oi v a → S w →
      wpAnyZ P md ops Q S z fuel (listed.setIfInBounds i true) (a.put oi.dst v) w → wpAnyZ P md ops Q S z (fuel + 1) listed a w := by
  intro fuel
  induction fuel with
  | zero => intro listed a w _ _ _ _ _ H; exact H.elim
  | succ fuel ih =>
    intro listed a w hok hfree hr hy hS H
    refine ⟨fun h => (by rw [h] at hr; cases hr), fun j hj => ?_⟩
    have hilt : i < ops.size := (Array.getElem?_eq_some_iff.1 hi).1
    have hsz : z + 1 = ops.size := by
      unfold chainB at hc
      simp only [Bool.and_eq_true, beq_iff_eq] at hc
      exact hc.1
    by_cases hji : j = i
    · subst hji
      exact hy.wpOp hi hS (by rw [if_neg hiz]; exact ⟨hS, H⟩)
    · have hjz : j ≠ z := by
        intro e
        subst e
        exact last_waits hc hok _ i rfl (by omega) (mem_ready.1 hr).1 hj
      have h1 := H.2 j (ready_mono hj hji)
      simp only [if_neg hjz] at h1
      obtain ⟨hjun, oj, hoj, hall⟩ := mem_ready.1 hj
      have hnot : ∀ e ∈ oj.after, Region.binds md e = true → e.on ≠ i := fun e he hb heq => by
        have h1 := hall e he hb
        have h0 := (mem_ready.1 hr).1
        rw [heq] at h1
        rcases Nat.lt_or_ge i listed.size with h' | h'
        · simp [h'] at h0 h1; rw [h0] at h1; cases h1
        · simp [Array.getElem?_eq_none h'] at h1
      have h2 := wpOp_putIf hoj (hfree j oj hoj hji hjun hnot) (fun cs b => hsel i oi cs b hi) (fun cs b => hsel j oj cs b hoj) hQ hy h1
      have hfree' : ∀ k ok, ops[k]? = some ok → k ≠ i → (listed.setIfInBounds j true).getD k true = false →
          (∀ e ∈ ok.after, Region.binds md e = true → e.on ≠ i) → oi.apart ops ok = true := fun k ok hk hki hun hno => by
        refine hfree k ok hk hki ?_ hno
        by_cases hjk : j = k
        · subst hjk; exact hjun
        · rw [getD_set_ne true hjk] at hun; exact hun
      refine wpOp_mono (fun a' w' h3 => ?_) h2
      rw [if_neg hjz]
      refine ⟨h3.2.1, ih (listed.setIfInBounds j true) a' w' (hok.set hj) hfree' (ready_mono hr (Ne.symm hji)) h3.1 h3.2.1 ?_⟩
      rw [Array.setIfInBounds_comm _ _ hji]
      exact h3.2.2
theorem wpAnyZ_take {i : Nat} {oi : Oper} {v : Value} {fuel : Nat} {listed : Array Bool} {a : Act} {w : World} (hc : chainB md ops z = true) (hok : okB md ops listed = true) (hiz : (i == z) = false) (hi : ops[i]? = some oi)
    (hs : Region.noSelect ops = true) (hf : Region.free md ops listed i = true) (hr : (Region.ready md ops listed).contains i = true)
    (hQ : ∀ c a w, Q (.panic c) (a.put oi.dst v) w → Q (.panic c) a w) (hy : YieldsIf P ops S oi v a) (hS : S w)
    (h : wpAnyZ P md ops Q S z fuel (listed.setIfInBounds i true) (a.put oi.dst v) w) : wpAnyZ P md ops Q S z (fuel + 1) listed a w :=
  wpAnyZ_first hc (by simpa using hiz) hi (Region.noSelect_spec hs) hQ fuel listed a w (okL_of hok) (Region.free_spec hi hf) (by simpa using hr) hy hS h
theorem wpAnyZ_call {q : Nat} {o : Oper} {fuel : Nat} {listed : Array Bool} {a : Act} {w : World} (hr : Region.ready md ops listed = [q]) (hqz : (q == z) = false) (ho : ops[q]? = some o)
    (h : ∀ K' : Act → World → Prop, Shut (∀ a w, S w → (S w → wpAnyZ P md ops Q S z fuel (listed.setIfInBounds q true) a w) → K' a w) → if Region.wanted o (yielded ops a.tmps) = true then Oper.wp P o a w K' Q else K' (a.put o.dst undef) w) :
    wpAnyZ P md ops Q S z (fuel + 1) listed a w :=
  ⟨by rw [hr]; simp, fun i hi => by
    rw [hr] at hi
    obtain rfl : i = q := by simpa using hi
    have hq : i ≠ z := by simpa using hqz
    simp only [if_neg hq]
    exact wpOp_step ho (fun K' hK => h K' (fun a w hS hW => hK a w ⟨hS, hW hS⟩))⟩
theorem wpAnyZ_last {o : Oper} {fuel : Nat} {listed : Array Bool} {a : Act} {w : World} (hr : Region.ready md ops listed = [z]) (ho : ops[z]? = some o)
    (h : ∀ K' : Act → World → Prop, Shut (∀ a w, Q .normal a w → K' a w) → if Region.wanted o (yielded ops a.tmps) = true then Oper.wp P o a w K' Q else K' (a.put o.dst undef) w) :
    wpAnyZ P md ops Q S z (fuel + 1) listed a w :=
  ⟨by rw [hr]; simp, fun i hi => by
    rw [hr] at hi
    obtain rfl : i = z := by simpa using hi
    simp only [if_true]
    exact wpOp_step ho (fun K' hK => h K' (fun a w hQ => hK a w hQ))⟩
/-- The beginning. -/
theorem wp_region_Z {id : Nat} {a : Act} {w : World} (z : Nat) (hm : P.follows .mixedOrders = true) (hc : chainB .any ops z = true) (hok : okB .any ops (Array.replicate ops.size false) = true) (hS : S w.drew)
    (h : S w.drew → wpAnyZ P .any ops Q S z ops.size (Array.replicate ops.size false) a w.drew) : (Code.region id ops true).wp P Q a w :=
  wp_region_any hm (wpAny_of_Z hc _ _ _ _ (okL_of hok) (h hS))
end
end Go.Proofs.Ytgidmmmdpmophaa
