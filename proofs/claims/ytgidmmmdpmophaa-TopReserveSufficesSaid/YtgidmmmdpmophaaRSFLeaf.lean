import Derived.Test.YtgidmmmdpmophaaRows
import Derived.WalkKit
import Derived.ProofKit
import Derived.OpenShut
import Derived.BigQuiet
import Derived.Deep.QuietTactic
import Derived.Deep.RegionHeld3
import Derived.Lib.Hide
import Derived.IntWalk
import Derived.WalkSmall
namespace Go.Proofs.Ytgidmmmdpmophaa
open Go.ChangeShapes Go.WideShapes Go.ChangeAt Go.RowKit
set_option linter.unusedVariables false

/-! ### PLAIN -/
def inB (n a b : Int) : Bool := decide (a ≤ n ∧ n ≤ b)
theorem inB_true {n a b : Int} (h1 : a ≤ n) (h2 : n ≤ b) : inB n a b = true := by unfold inB; simp [h1, h2]
theorem inB_f1 {n a b : Int} (h1 : ¬ a ≤ n) : inB n a b = false := by unfold inB; simp [h1]
theorem inB_f2 {n a b : Int} (h1 : ¬ n ≤ b) : inB n a b = false := by unfold inB; simp [h1]
theorem inB_iff {n a b : Int} : inB n a b = true ↔ a ≤ n ∧ n ≤ b := by unfold inB; simp
theorem inB_not {n a b : Int} : inB n a b = false ↔ ¬ (a ≤ n ∧ n ≤ b) := by unfold inB; simp
/-- The error of a number that must lie from a to b. -/
def rngE (n a b : Int) : Int := if inB n a b = true then 0 else 2
theorem rngE_t {n a b : Int} (h : inB n a b = true) : rngE n a b = 0 := by unfold rngE; simp [h]
theorem rngE_f {n a b : Int} (h : inB n a b = false) : rngE n a b = 2 := by unfold rngE; simp [h]
theorem inB_cases (n a b : Int) : inB n a b = true ∨ inB n a b = false := by cases inB n a b <;> simp

theorem ret_int {k : IntKind} {a b : Int} (h : a = b) : Ending.returned (.int k a) = .returned (.int k b) := by rw [h]
theorem ret_bool {a b : Bool} (h : a = b) : Ending.returned (.bool a) = .returned (.bool b) := by rw [h]
/-- What is left of old memory behind a call that only makes memory of its own. -/
theorem bcell {W w1 : World} (hb : Below W.heap.size W w1) : (∀ b o, b < W.heap.size → w1.cell? ⟨b, o, none⟩ = W.cell? ⟨b, o, none⟩) ∧ (∀ b o, b < W.heap.size → w1.frozen? ⟨b, o, none⟩ = W.frozen? ⟨b, o, none⟩) :=
  ⟨fun b o h => hb.cell (p := ⟨b, o, none⟩) h, fun b o h => hb.frozen (p := ⟨b, o, none⟩) h⟩

/-! ### SHORT FORMS of the laws by which a region is walked by hand (a claim's bytes) -/
theorem sA {α : Type} (l : List α) (i : Nat) (a : α) : l.toArray.setIfInBounds i a = (l.set i a).toArray := by simp
theorem sB {α : Type} (a b : α) (l : List α) : (a :: l).set 0 b = b :: l := rfl
theorem sC {α : Type} (a b : α) (l : List α) (n : Nat) : (a :: l).set (n + 1) b = a :: l.set n b := rfl
theorem tkH {P : Program} {md : Region.Mode} {ops : Array Oper} {Q : Exit → Act → World → Prop} {S : World → Prop} {fuel : Nat} {listed : Array Bool} {a : Act} {w : World} (i : Nat) (oi : Oper) (v : Value) (hi : ops[i]? = some oi)
    (hy : ∀ w, S w → (execOp a.eval oi).run P w = .ok (.value v) w) (hS : S w) (h : wpAnyH P md ops Q S fuel (listed.setIfInBounds i true) (a.put oi.dst v) w)
    (hw : Region.wanted oi (yielded ops a.tmps) = true := by kernel_rfl) (hs : Region.noSelect ops = true := by kernel_rfl) (hf : Region.free md ops listed i = true := by kernel_rfl) (hr : (Region.ready md ops listed).contains i = true := by kernel_rfl)
    (hQ : ∀ c a w, Q (.panic c) (a.put oi.dst v) w → Q (.panic c) a w := by exact fun _ _ _ h => h) : wpAnyH P md ops Q S (fuel + 1) listed a w :=
  wpAnyH_take hi hs hf hr hQ (Or.inl ⟨hw, hy⟩) hS h
/-! ### WITHIN -/
theorem within_any (n a b : Int) (w : World) :
    Calls Try.prog 76 #[.int .i64 n, .int .i64 a, .int .i64 b] w fun e w' => e = .returned (.bool (inB n a b)) ∧ w = w' := by
  by_cases h1 : a ≤ n
  · by_cases h2 : n ≤ b
    · have h3 := inB_true h1 h2
      go_enter Try.func76, Try.ntmps76
      go_wp2
      go_ret
      exact ⟨by first | rfl | exact ret_bool h3.symm, rfl⟩
    · have h3 := inB_f2 (a := a) h2
      go_enter Try.func76, Try.ntmps76
      go_wp2
      go_ret
      exact ⟨by first | rfl | exact ret_bool h3.symm, rfl⟩
  · have h3 := inB_f1 (b := b) h1
    go_enter Try.func76, Try.ntmps76
    go_wp2
    go_ret
    exact ⟨by first | rfl | exact ret_bool h3.symm, rfl⟩
theorem baseWithin_any (n a b : Int) (w : World) :
    Calls Try.prog 9 #[.int .i64 n, .int .i64 a, .int .i64 b] w fun e w' => e = .returned (.bool (inB n a b)) ∧ w = w' := by
  by_cases h1 : a ≤ n
  · by_cases h2 : n ≤ b
    · have h3 := inB_true h1 h2
      go_enter Try.func9, Try.ntmps9
      go_wp2
      go_ret
      exact ⟨by first | rfl | exact ret_bool h3.symm, rfl⟩
    · have h3 := inB_f2 (a := a) h2
      go_enter Try.func9, Try.ntmps9
      go_wp2
      go_ret
      exact ⟨by first | rfl | exact ret_bool h3.symm, rfl⟩
  · have h3 := inB_f1 (b := b) h1
    go_enter Try.func9, Try.ntmps9
    go_wp2
    go_ret
    exact ⟨by first | rfl | exact ret_bool h3.symm, rfl⟩
theorem checkRange_any (n a b : Int) (w : World) :
    Calls Try.prog 71 #[.int .i64 n, .int .i64 a, .int .i64 b] w fun e w' => e = .returned (.int .i64 (rngE n a b)) ∧ w = w' := by
  rcases inB_cases n a b with h | h
  · have h3 := rngE_t h
    go_enter Try.func71, Try.ntmps71
    go_wp2_with (go_at_call 76; refine (within_any _ _ _ _).mono ?_; rintro e w' ⟨rfl, rfl⟩)
    go_ret
    exact ⟨by first | rfl | exact ret_int h3.symm, rfl⟩
  · have h3 := rngE_f h
    go_enter Try.func71, Try.ntmps71
    go_wp2_with (go_at_call 76; refine (within_any _ _ _ _).mono ?_; rintro e w' ⟨rfl, rfl⟩)
    go_ret
    exact ⟨by first | rfl | exact ret_int h3.symm, rfl⟩

/-! ### CHECKGAS -/
def gasE (o h : Int) : Int := if inB o 0 1000 = true ∧ inB h 0 1000 = true then (if o + h ≤ 1000 then 0 else 23) else 2
theorem CheckGas_any (o h : Int) (w : World) :
    Calls Try.prog 79 #[.agg #[.int .i64 o, .int .i64 h]] w fun e w' => e = .returned (.int .i64 (gasE o h)) ∧ w.alloc (.cells #[.int .i64 o, .int .i64 h] 92) = w' := by
  rcases inB_cases o 0 1000 with h1 | h1
  · rcases inB_cases h 0 1000 with h2 | h2
    · have b1 := inB_iff.1 h1
      have b2 := inB_iff.1 h2
      obtain ⟨c1, c2⟩ := b1
      obtain ⟨c3, c4⟩ := b2
      by_cases h3 : o + h ≤ 1000
      · have h4 : gasE o h = 0 := by unfold gasE; simp [h1, h2, h3]
        go_enter Try.func79, Try.ntmps79
        go_wp2_with (go_at_call 76; refine (within_any _ _ _ _).mono ?_; rintro e w' ⟨rfl, rfl⟩)
        go_ret
        exact ⟨by first | rfl | exact ret_int h4.symm, rfl⟩
      · have h4 : gasE o h = 23 := by unfold gasE; simp [h1, h2, h3]
        go_enter Try.func79, Try.ntmps79
        go_wp2_with (go_at_call 76; refine (within_any _ _ _ _).mono ?_; rintro e w' ⟨rfl, rfl⟩)
        go_ret
        exact ⟨by first | rfl | exact ret_int h4.symm, rfl⟩
    · have h4 : gasE o h = 2 := by unfold gasE; simp [h1, h2]
      go_enter Try.func79, Try.ntmps79
      go_wp2_with (go_at_call 76; refine (within_any _ _ _ _).mono ?_; rintro e w' ⟨rfl, rfl⟩)
      go_ret
      exact ⟨by first | rfl | exact ret_int h4.symm, rfl⟩
  · have h4 : gasE o h = 2 := by unfold gasE; simp [h1]
    go_enter Try.func79, Try.ntmps79
    go_wp2_with (go_at_call 76; refine (within_any _ _ _ _).mono ?_; rintro e w' ⟨rfl, rfl⟩)
    go_ret
    exact ⟨by first | rfl | exact ret_int h4.symm, rfl⟩
theorem refCheckGas_any (o h : Int) (w : World) :
    Calls Try.prog 68 #[.agg #[.int .i64 o, .int .i64 h]] w fun e w' => e = .returned (.int .i64 (gasE o h)) ∧ w.alloc (.cells #[.int .i64 o, .int .i64 h] 92) = w' := by
  rcases inB_cases o 0 1000 with h1 | h1
  · rcases inB_cases h 0 1000 with h2 | h2
    · have b1 := inB_iff.1 h1
      have b2 := inB_iff.1 h2
      obtain ⟨c1, c2⟩ := b1
      obtain ⟨c3, c4⟩ := b2
      by_cases h3 : o + h ≤ 1000
      · have h4 : gasE o h = 0 := by unfold gasE; simp [h1, h2, h3]
        go_enter Try.func68, Try.ntmps68
        go_wp2_with (go_at_call 9; refine (baseWithin_any _ _ _ _).mono ?_; rintro e w' ⟨rfl, rfl⟩)
        go_ret
        exact ⟨by first | rfl | exact ret_int h4.symm, rfl⟩
      · have h4 : gasE o h = 23 := by unfold gasE; simp [h1, h2, h3]
        go_enter Try.func68, Try.ntmps68
        go_wp2_with (go_at_call 9; refine (baseWithin_any _ _ _ _).mono ?_; rintro e w' ⟨rfl, rfl⟩)
        go_ret
        exact ⟨by first | rfl | exact ret_int h4.symm, rfl⟩
    · have h4 : gasE o h = 2 := by unfold gasE; simp [h1, h2]
      go_enter Try.func68, Try.ntmps68
      go_wp2_with (go_at_call 9; refine (baseWithin_any _ _ _ _).mono ?_; rintro e w' ⟨rfl, rfl⟩)
      go_ret
      exact ⟨by first | rfl | exact ret_int h4.symm, rfl⟩
  · have h4 : gasE o h = 2 := by unfold gasE; simp [h1]
    go_enter Try.func68, Try.ntmps68
    go_wp2_with (go_at_call 9; refine (baseWithin_any _ _ _ _).mono ?_; rintro e w' ⟨rfl, rfl⟩)
    go_ret
    exact ⟨by first | rfl | exact ret_int h4.symm, rfl⟩

/-! ### FIRSTOF: the first error of a list -/
def firE : List Int → Int
  | [] => 0
  | e :: r => if e = 0 then firE r else e
theorem firE_z {l : List Int} : (∀ x ∈ l, x = 0) → firE l = 0 := by
  induction l with
  | nil => intro _; rfl
  | cons a r ih => intro h; unfold firE; rw [if_pos (h a (by simp))]; exact ih fun x hx => h x (by simp [hx])
theorem firE_at {l : List Int} {k : Nat} (hk : k < l.length) (hz : ∀ j, j < k → l.getD j 0 = 0) (hn : l.getD k 0 ≠ 0) : firE l = l.getD k 0 := by
  induction l generalizing k with
  | nil => simp at hk
  | cons a r ih =>
    cases k with
    | zero => unfold firE; simp at hn ⊢; simp [hn]
    | succ k =>
      have ha : a = 0 := by have := hz 0 (by omega); simpa using this
      unfold firE
      rw [if_pos ha]
      have := ih (k := k) (by simpa using hk) (fun j hj => by have := hz (j + 1) (by omega); simpa using this) (by simpa using hn)
      simpa using this
theorem firstOf_any (l : List Int) (b off : Nat) (w : World) (hl : l.length ≤ 1000) (h0 : 0 < l.length)
    (hc : ∀ k, k < l.length → w.cell? ⟨b, off + k, none⟩ = some (.int .i64 (l.getD k 0))) :
    Calls Try.prog 70 #[.slice (some ⟨b, off, none⟩) l.length l.length] w fun e w' => e = .returned (.int .i64 (firE l)) ∧ w = w' := by
  have HC := Lib.hid hc
  clear hc
  go_enter Try.func70, Try.ntmps70
  go_wp2
  go_loop [7] (fun i => ∃ k : Nat, k ≤ l.length ∧ i = .int .i64 k ∧ Hid (∀ j, j < k → l.getD j 0 = 0)) (fun i => l.length - (intOf i).toNat)
  case atStart => exact ⟨0, by omega, rfl, fun j hj => by omega⟩
  case round =>
    obtain ⟨k, hk, rfl, hz⟩ := hrel
    by_cases hlt : k < l.length
    · have hcell := HC.out k hlt
      by_cases hn : l.getD k 0 = 0
      · rw [hn] at hcell
        go_wp2
        go_round
        case rel => exact ⟨k + 1, by omega, by go_num, fun j hj => by
          by_cases e : j = k
          · rw [e]; exact hn
          · exact hz.out j (by omega)⟩
        case measure => simp [intOf]; omega
      · have hr := firE_at hlt hz.out hn
        have hb : (l.getD k 0 != 0) = true := by simp; simpa using hn
        generalize hg : l.getD k 0 = x at *
        clear hg
        go_wp2
        go_ret
        exact ⟨by first | rfl | exact ret_int hr.symm, rfl⟩
    · have hkk : k = l.length := by omega
      have hr : firE l = 0 := firE_z (fun x hx => by
        obtain ⟨j, hj, rfl⟩ := List.getElem_of_mem hx
        have := hz.out j (by omega)
        simpa [hj] using this)
      clear hk
      go_wp2
      go_ret
      exact ⟨by first | rfl | exact ret_int hr.symm, rfl⟩

theorem ez (x : Int) : (Hid (x = 0) ∧ (x != 0) = false) ∨ (Hid (x ≠ 0) ∧ (x != 0) = true) := by
  by_cases h : x = 0
  · exact Or.inl ⟨h, by simp [h]⟩
  · exact Or.inr ⟨h, by simpa using h⟩

theorem firstOf2 (x y : Int) (T : TypeId) (b : Nat) (w : World) (hb : w.heap.size = b) :
    Calls Try.prog 70 #[.slice (some ⟨b, 0, none⟩) 2 2] (w.alloc (.cells #[.int .i64 x, .int .i64 y] T)).drew fun e w' => e = .returned (.int .i64 (firE [x, y])) ∧ (w.alloc (.cells #[.int .i64 x, .int .i64 y] T)).drew = w' := by
  subst hb
  refine firstOf_any [x, y] w.heap.size 0 _ (by simp) (by simp) ?_
  intro k hk
  have : k = 0 ∨ k = 1 := by simp at hk; omega
  rcases this with rfl | rfl <;> simp
/-! ### LIMITS -/
def rng2E (a b : Int) : Int := firE [rngE a 1 4000, rngE b 1 4000]
def limE (a b : Int) : Int := if rng2E a b = 0 then (if a ≤ b then 0 else 9) else rng2E a b
theorem CheckLimits_any (a b : Int) (w : World) :
    Calls Try.prog 52 #[.agg #[.int .i64 a, .int .i64 b]] w fun e w' => e = .returned (.int .i64 (limE a b)) ∧ ((w.alloc (.cells #[.int .i64 a, .int .i64 b] 28)).alloc (.cells #[.int .i64 (rngE a 1 4000), .int .i64 (rngE b 1 4000)] 38)).drew = w' := by
  rcases ez (rng2E a b) with ⟨h, hb⟩ | ⟨h, hb⟩
  · by_cases h2 : a ≤ b
    · have h3 : limE a b = 0 := by unfold limE; rw [if_pos h.out, if_pos h2]
      have h4 := Lib.hid h3
      clear h3
      unfold rng2E at hb
      go_enter Try.func52, Try.ntmps52
      go_wp2
      go_region_held3 (fun w' => w'.cell? ⟨w.heap.size, 0, none⟩ = some (.int .i64 a) ∧ w'.cell? ⟨w.heap.size, 1, none⟩ = some (.int .i64 b)) (go_keep)
        (first
          | (go_at_call 71; ((with_reducible refine (checkRange_any _ _ _ _).mono ?_)); rintro e w' ⟨rfl, rfl⟩)
          | (go_at_call 70; ((with_reducible refine (firstOf2 _ _ _ _ _ (by simp)).mono ?_)); rintro e w' ⟨rfl, rfl⟩))
      go_wp2
      go_ret
      exact ⟨ret_int h4.out.symm, rfl⟩
    · have h3 : limE a b = 9 := by unfold limE; rw [if_pos h.out, if_neg h2]
      have h4 := Lib.hid h3
      clear h3
      unfold rng2E at hb
      go_enter Try.func52, Try.ntmps52
      go_wp2
      go_region_held3 (fun w' => w'.cell? ⟨w.heap.size, 0, none⟩ = some (.int .i64 a) ∧ w'.cell? ⟨w.heap.size, 1, none⟩ = some (.int .i64 b)) (go_keep)
        (first
          | (go_at_call 71; ((with_reducible refine (checkRange_any _ _ _ _).mono ?_)); rintro e w' ⟨rfl, rfl⟩)
          | (go_at_call 70; ((with_reducible refine (firstOf2 _ _ _ _ _ (by simp)).mono ?_)); rintro e w' ⟨rfl, rfl⟩))
      go_wp2
      go_ret
      exact ⟨ret_int h4.out.symm, rfl⟩
  · have h3 : limE a b = rng2E a b := by unfold limE; rw [if_neg h.out]
    have h4 := Lib.hid h3
    clear h3
    unfold rng2E at hb
    go_enter Try.func52, Try.ntmps52
    go_wp2
    go_region_held3 (fun w' => w'.cell? ⟨w.heap.size, 0, none⟩ = some (.int .i64 a) ∧ w'.cell? ⟨w.heap.size, 1, none⟩ = some (.int .i64 b)) (go_keep)
      (first
        | (go_at_call 71; ((with_reducible refine (checkRange_any _ _ _ _).mono ?_)); rintro e w' ⟨rfl, rfl⟩)
        | (go_at_call 70; ((with_reducible refine (firstOf2 _ _ _ _ _ (by simp)).mono ?_)); rintro e w' ⟨rfl, rfl⟩))
    go_wp2
    go_ret
    exact ⟨ret_int h4.out.symm, rfl⟩

end Go.Proofs.Ytgidmmmdpmophaa
