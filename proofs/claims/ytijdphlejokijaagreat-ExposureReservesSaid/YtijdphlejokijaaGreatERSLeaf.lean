import Derived.Test.YtijdphlejokijaaGreatRows
import Derived.WalkKit
import Derived.ProofKit
import Derived.OpenShut
import Derived.BigQuiet
import Derived.Deep.QuietTactic
import Derived.Deep.RegionHeld3
import Derived.Lib.Hide
import Derived.IntWalk
import Derived.WalkSmall
namespace Go.Proofs.YtijdphlejokijaaGreat
open Go.ChangeShapes Go.WideShapes Go.ChangeAt Go.RowKit
set_option linter.unusedVariables false

/-! ### PLAIN -/
def inB (n a b : Int) : Bool := decide (a ≤ n ∧ n ≤ b)
theorem inB_true {n a b : Int} (h1 : a ≤ n) (h2 : n ≤ b) : inB n a b = true := by unfold inB; simp [h1, h2]
theorem inB_f1 {n a b : Int} (h1 : ¬ a ≤ n) : inB n a b = false := by unfold inB; simp [h1]
theorem inB_f2 {n a b : Int} (h1 : ¬ n ≤ b) : inB n a b = false := by unfold inB; simp [h1]
theorem inB_iff {n a b : Int} : inB n a b = true ↔ a ≤ n ∧ n ≤ b := by unfold inB; simp
theorem inB_not {n a b : Int} : inB n a b = false ↔ ¬ (a ≤ n ∧ n ≤ b) := by unfold inB; simp
/-- The error of a number that must lie from a to b. -/
def rngE (n a b : Int) : Int := if inB n a b = true then 0 else 2
theorem rngE_t {n a b : Int} (h : inB n a b = true) : rngE n a b = 0 := by unfold rngE; simp [h]
theorem rngE_f {n a b : Int} (h : inB n a b = false) : rngE n a b = 2 := by unfold rngE; simp [h]
theorem inB_cases (n a b : Int) : inB n a b = true ∨ inB n a b = false := by cases inB n a b <;> simp

theorem ret_int {k : IntKind} {a b : Int} (h : a = b) : Ending.returned (.int k a) = .returned (.int k b) := by rw [h]
theorem ret_bool {a b : Bool} (h : a = b) : Ending.returned (.bool a) = .returned (.bool b) := by rw [h]
/-- What is left of old memory behind a call that only makes memory of its own. -/
theorem bcell {W w1 : World} (hb : Below W.heap.size W w1) : (∀ b o, b < W.heap.size → w1.cell? ⟨b, o, none⟩ = W.cell? ⟨b, o, none⟩) ∧ (∀ b o, b < W.heap.size → w1.frozen? ⟨b, o, none⟩ = W.frozen? ⟨b, o, none⟩) :=
  ⟨fun b o h => hb.cell (p := ⟨b, o, none⟩) h, fun b o h => hb.frozen (p := ⟨b, o, none⟩) h⟩

/-! ### SHORT FORMS of the laws by which a region is walked by hand (a claim's bytes) -/
theorem sA {α : Type} (l : List α) (i : Nat) (a : α) : l.toArray.setIfInBounds i a = (l.set i a).toArray := by simp
theorem sB {α : Type} (a b : α) (l : List α) : (a :: l).set 0 b = b :: l := rfl
theorem sC {α : Type} (a b : α) (l : List α) (n : Nat) : (a :: l).set (n + 1) b = a :: l.set n b := rfl
theorem tkH {P : Program} {md : Region.Mode} {ops : Array Oper} {Q : Exit → Act → World → Prop} {S : World → Prop} {fuel : Nat} {listed : Array Bool} {a : Act} {w : World} (i : Nat) (oi : Oper) (v : Value) (hi : ops[i]? = some oi)
    (hy : ∀ w, S w → (execOp a.eval oi).run P w = .ok (.value v) w) (hS : S w) (h : wpAnyH P md ops Q S fuel (listed.setIfInBounds i true) (a.put oi.dst v) w)
    (hw : Region.wanted oi (yielded ops a.tmps) = true := by kernel_rfl) (hs : Region.noSelect ops = true := by kernel_rfl) (hf : Region.free md ops listed i = true := by kernel_rfl) (hr : (Region.ready md ops listed).contains i = true := by kernel_rfl)
    (hQ : ∀ c a w, Q (.panic c) (a.put oi.dst v) w → Q (.panic c) a w := by exact fun _ _ _ h => h) : wpAnyH P md ops Q S (fuel + 1) listed a w :=
  wpAnyH_take hi hs hf hr hQ (Or.inl ⟨hw, hy⟩) hS h
/-! ### WITHIN -/
theorem within_any (n a b : Int) (w : World) :
    Calls Tryz.prog 75 #[.int .i64 n, .int .i64 a, .int .i64 b] w fun e w' => e = .returned (.bool (inB n a b)) ∧ w = w' := by
  by_cases h1 : a ≤ n
  · by_cases h2 : n ≤ b
    · have h3 := inB_true h1 h2
      go_enter Tryz.func75, Tryz.ntmps75
      go_wp2
      go_ret
      exact ⟨by first | rfl | exact ret_bool h3.symm, rfl⟩
    · have h3 := inB_f2 (a := a) h2
      go_enter Tryz.func75, Tryz.ntmps75
      go_wp2
      go_ret
      exact ⟨by first | rfl | exact ret_bool h3.symm, rfl⟩
  · have h3 := inB_f1 (b := b) h1
    go_enter Tryz.func75, Tryz.ntmps75
    go_wp2
    go_ret
    exact ⟨by first | rfl | exact ret_bool h3.symm, rfl⟩
theorem baseWithin_any (n a b : Int) (w : World) :
    Calls Tryz.prog 41 #[.int .i64 n, .int .i64 a, .int .i64 b] w fun e w' => e = .returned (.bool (inB n a b)) ∧ w = w' := by
  by_cases h1 : a ≤ n
  · by_cases h2 : n ≤ b
    · have h3 := inB_true h1 h2
      go_enter Tryz.func41, Tryz.ntmps41
      go_wp2
      go_ret
      exact ⟨by first | rfl | exact ret_bool h3.symm, rfl⟩
    · have h3 := inB_f2 (a := a) h2
      go_enter Tryz.func41, Tryz.ntmps41
      go_wp2
      go_ret
      exact ⟨by first | rfl | exact ret_bool h3.symm, rfl⟩
  · have h3 := inB_f1 (b := b) h1
    go_enter Tryz.func41, Tryz.ntmps41
    go_wp2
    go_ret
    exact ⟨by first | rfl | exact ret_bool h3.symm, rfl⟩
theorem checkRange_any (n a b : Int) (w : World) :
    Calls Tryz.prog 86 #[.int .i64 n, .int .i64 a, .int .i64 b] w fun e w' => e = .returned (.int .i64 (rngE n a b)) ∧ w = w' := by
  rcases inB_cases n a b with h | h
  · have h3 := rngE_t h
    go_enter Tryz.func86, Tryz.ntmps86
    go_wp2_with (go_at_call 75; refine (within_any _ _ _ _).mono ?_; rintro e w' ⟨rfl, rfl⟩)
    go_ret
    exact ⟨by first | rfl | exact ret_int h3.symm, rfl⟩
  · have h3 := rngE_f h
    go_enter Tryz.func86, Tryz.ntmps86
    go_wp2_with (go_at_call 75; refine (within_any _ _ _ _).mono ?_; rintro e w' ⟨rfl, rfl⟩)
    go_ret
    exact ⟨by first | rfl | exact ret_int h3.symm, rfl⟩
theorem checkSurface_any (n : Int) (w : World) :
    Calls Tryz.prog 97 #[.int .i64 n] w fun e w' => e = .returned (.int .i64 (rngE n 400 1100)) ∧ w = w' := by
  go_enter Tryz.func97, Tryz.ntmps97
  go_wp2_with (go_at_call 86; refine (checkRange_any _ _ _ _).mono ?_; rintro e w' ⟨rfl, rfl⟩)
  go_ret
  exact ⟨rfl, rfl⟩
theorem checkDepth_any (n : Int) (w : World) :
    Calls Tryz.prog 98 #[.int .i64 n] w fun e w' => e = .returned (.int .i64 (rngE n 0 30000)) ∧ w = w' := by
  go_enter Tryz.func98, Tryz.ntmps98
  go_wp2_with (go_at_call 86; refine (checkRange_any _ _ _ _).mono ?_; rintro e w' ⟨rfl, rfl⟩)
  go_ret
  exact ⟨rfl, rfl⟩
theorem checkPressure_any (n : Int) (w : World) :
    Calls Tryz.prog 101 #[.int .i64 n] w fun e w' => e = .returned (.int .i64 (rngE n 0 100000)) ∧ w = w' := by
  go_enter Tryz.func101, Tryz.ntmps101
  go_wp2_with (go_at_call 86; refine (checkRange_any _ _ _ _).mono ?_; rintro e w' ⟨rfl, rfl⟩)
  go_ret
  exact ⟨rfl, rfl⟩

/-! ### CHECKGAS -/
def gasE (o h : Int) : Int := if inB o 0 1000 = true ∧ inB h 0 1000 = true then (if o + h ≤ 1000 then 0 else 23) else 2
theorem CheckGas_any (o h : Int) (w : World) :
    Calls Tryz.prog 47 #[.agg #[.int .i64 o, .int .i64 h]] w fun e w' => e = .returned (.int .i64 (gasE o h)) ∧ w.alloc (.cells #[.int .i64 o, .int .i64 h] 66) = w' := by
  rcases inB_cases o 0 1000 with h1 | h1
  · rcases inB_cases h 0 1000 with h2 | h2
    · have b1 := inB_iff.1 h1
      have b2 := inB_iff.1 h2
      obtain ⟨c1, c2⟩ := b1
      obtain ⟨c3, c4⟩ := b2
      by_cases h3 : o + h ≤ 1000
      · have h4 : gasE o h = 0 := by unfold gasE; simp [h1, h2, h3]
        go_enter Tryz.func47, Tryz.ntmps47
        go_wp2_with (go_at_call 75; refine (within_any _ _ _ _).mono ?_; rintro e w' ⟨rfl, rfl⟩)
        go_ret
        exact ⟨by first | rfl | exact ret_int h4.symm, rfl⟩
      · have h4 : gasE o h = 23 := by unfold gasE; simp [h1, h2, h3]
        go_enter Tryz.func47, Tryz.ntmps47
        go_wp2_with (go_at_call 75; refine (within_any _ _ _ _).mono ?_; rintro e w' ⟨rfl, rfl⟩)
        go_ret
        exact ⟨by first | rfl | exact ret_int h4.symm, rfl⟩
    · have h4 : gasE o h = 2 := by unfold gasE; simp [h1, h2]
      go_enter Tryz.func47, Tryz.ntmps47
      go_wp2_with (go_at_call 75; refine (within_any _ _ _ _).mono ?_; rintro e w' ⟨rfl, rfl⟩)
      go_ret
      exact ⟨by first | rfl | exact ret_int h4.symm, rfl⟩
  · have h4 : gasE o h = 2 := by unfold gasE; simp [h1]
    go_enter Tryz.func47, Tryz.ntmps47
    go_wp2_with (go_at_call 75; refine (within_any _ _ _ _).mono ?_; rintro e w' ⟨rfl, rfl⟩)
    go_ret
    exact ⟨by first | rfl | exact ret_int h4.symm, rfl⟩
theorem refCheckGas_any (o h : Int) (w : World) :
    Calls Tryz.prog 81 #[.agg #[.int .i64 o, .int .i64 h]] w fun e w' => e = .returned (.int .i64 (gasE o h)) ∧ w.alloc (.cells #[.int .i64 o, .int .i64 h] 66) = w' := by
  rcases inB_cases o 0 1000 with h1 | h1
  · rcases inB_cases h 0 1000 with h2 | h2
    · have b1 := inB_iff.1 h1
      have b2 := inB_iff.1 h2
      obtain ⟨c1, c2⟩ := b1
      obtain ⟨c3, c4⟩ := b2
      by_cases h3 : o + h ≤ 1000
      · have h4 : gasE o h = 0 := by unfold gasE; simp [h1, h2, h3]
        go_enter Tryz.func81, Tryz.ntmps81
        go_wp2_with (go_at_call 41; refine (baseWithin_any _ _ _ _).mono ?_; rintro e w' ⟨rfl, rfl⟩)
        go_ret
        exact ⟨by first | rfl | exact ret_int h4.symm, rfl⟩
      · have h4 : gasE o h = 23 := by unfold gasE; simp [h1, h2, h3]
        go_enter Tryz.func81, Tryz.ntmps81
        go_wp2_with (go_at_call 41; refine (baseWithin_any _ _ _ _).mono ?_; rintro e w' ⟨rfl, rfl⟩)
        go_ret
        exact ⟨by first | rfl | exact ret_int h4.symm, rfl⟩
    · have h4 : gasE o h = 2 := by unfold gasE; simp [h1, h2]
      go_enter Tryz.func81, Tryz.ntmps81
      go_wp2_with (go_at_call 41; refine (baseWithin_any _ _ _ _).mono ?_; rintro e w' ⟨rfl, rfl⟩)
      go_ret
      exact ⟨by first | rfl | exact ret_int h4.symm, rfl⟩
  · have h4 : gasE o h = 2 := by unfold gasE; simp [h1]
    go_enter Tryz.func81, Tryz.ntmps81
    go_wp2_with (go_at_call 41; refine (baseWithin_any _ _ _ _).mono ?_; rintro e w' ⟨rfl, rfl⟩)
    go_ret
    exact ⟨by first | rfl | exact ret_int h4.symm, rfl⟩

/-! ### FIRSTOF: the first error of a list -/
def firE : List Int → Int
  | [] => 0
  | e :: r => if e = 0 then firE r else e
theorem firE_z {l : List Int} : (∀ x ∈ l, x = 0) → firE l = 0 := by
  induction l with
  | nil => intro _; rfl
  | cons a r ih => intro h; unfold firE; rw [if_pos (h a (by simp))]; exact ih fun x hx => h x (by simp [hx])
theorem firE_at {l : List Int} {k : Nat} (hk : k < l.length) (hz : ∀ j, j < k → l.getD j 0 = 0) (hn : l.getD k 0 ≠ 0) : firE l = l.getD k 0 := by
  induction l generalizing k with
  | nil => simp at hk
  | cons a r ih =>
    cases k with
    | zero => unfold firE; simp at hn ⊢; simp [hn]
    | succ k =>
      have ha : a = 0 := by have := hz 0 (by omega); simpa using this
      unfold firE
      rw [if_pos ha]
      have := ih (k := k) (by simpa using hk) (fun j hj => by have := hz (j + 1) (by omega); simpa using this) (by simpa using hn)
      simpa using this
theorem firstOf_any (l : List Int) (b off : Nat) (w : World) (hl : l.length ≤ 1000) (h0 : 0 < l.length)
    (hc : ∀ k, k < l.length → w.cell? ⟨b, off + k, none⟩ = some (.int .i64 (l.getD k 0))) :
    Calls Tryz.prog 85 #[.slice (some ⟨b, off, none⟩) l.length l.length] w fun e w' => e = .returned (.int .i64 (firE l)) ∧ w = w' := by
  have HC := Lib.hid hc
  clear hc
  go_enter Tryz.func85, Tryz.ntmps85
  go_wp2
  go_loop [7] (fun i => ∃ k : Nat, k ≤ l.length ∧ i = .int .i64 k ∧ Hid (∀ j, j < k → l.getD j 0 = 0)) (fun i => l.length - (intOf i).toNat)
  case atStart => exact ⟨0, by omega, rfl, fun j hj => by omega⟩
  case round =>
    obtain ⟨k, hk, rfl, hz⟩ := hrel
    by_cases hlt : k < l.length
    · have hcell := HC.out k hlt
      by_cases hn : l.getD k 0 = 0
      · rw [hn] at hcell
        go_wp2
        go_round
        case rel => exact ⟨k + 1, by omega, by go_num, fun j hj => by
          by_cases e : j = k
          · rw [e]; exact hn
          · exact hz.out j (by omega)⟩
        case measure => simp [intOf]; omega
      · have hr := firE_at hlt hz.out hn
        have hb : (l.getD k 0 != 0) = true := by simp; simpa using hn
        generalize hg : l.getD k 0 = x at *
        clear hg
        go_wp2
        go_ret
        exact ⟨by first | rfl | exact ret_int hr.symm, rfl⟩
    · have hkk : k = l.length := by omega
      have hr : firE l = 0 := firE_z (fun x hx => by
        obtain ⟨j, hj, rfl⟩ := List.getElem_of_mem hx
        have := hz.out j (by omega)
        simpa [hj] using this)
      clear hk
      go_wp2
      go_ret
      exact ⟨by first | rfl | exact ret_int hr.symm, rfl⟩

theorem ez (x : Int) : (Hid (x = 0) ∧ (x != 0) = false) ∨ (Hid (x ≠ 0) ∧ (x != 0) = true) := by
  by_cases h : x = 0
  · exact Or.inl ⟨h, by simp [h]⟩
  · exact Or.inr ⟨h, by simpa using h⟩

theorem firstOf2 (x y : Int) (T : TypeId) (b : Nat) (w : World) (hb : w.heap.size = b) :
    Calls Tryz.prog 85 #[.slice (some ⟨b, 0, none⟩) 2 2] (w.alloc (.cells #[.int .i64 x, .int .i64 y] T)).drew fun e w' => e = .returned (.int .i64 (firE [x, y])) ∧ (w.alloc (.cells #[.int .i64 x, .int .i64 y] T)).drew = w' := by
  subst hb
  refine firstOf_any [x, y] w.heap.size 0 _ (by simp) (by simp) ?_
  intro k hk
  have : k = 0 ∨ k = 1 := by simp at hk; omega
  rcases this with rfl | rfl <;> simp
/-! ### LIMITS -/
def rng2E (a b : Int) : Int := firE [rngE a 1 4000, rngE b 1 4000]
def limE (a b : Int) : Int := if rng2E a b = 0 then (if a ≤ b then 0 else 9) else rng2E a b
theorem CheckLimits_any (a b : Int) (w : World) :
    Calls Tryz.prog 57 #[.agg #[.int .i64 a, .int .i64 b]] w fun e w' => e = .returned (.int .i64 (limE a b)) ∧ ((w.alloc (.cells #[.int .i64 a, .int .i64 b] 28)).alloc (.cells #[.int .i64 (rngE a 1 4000), .int .i64 (rngE b 1 4000)] 35)).drew = w' := by
  rcases ez (rng2E a b) with ⟨h, hb⟩ | ⟨h, hb⟩
  · by_cases h2 : a ≤ b
    · have h3 : limE a b = 0 := by unfold limE; rw [if_pos h.out, if_pos h2]
      have h4 := Lib.hid h3
      clear h3
      unfold rng2E at hb
      go_enter Tryz.func57, Tryz.ntmps57
      go_wp2
      go_region_held3 (fun w' => w'.cell? ⟨w.heap.size, 0, none⟩ = some (.int .i64 a) ∧ w'.cell? ⟨w.heap.size, 1, none⟩ = some (.int .i64 b)) (go_keep)
        (first
          | (go_at_call 86; ((with_reducible refine (checkRange_any _ _ _ _).mono ?_)); rintro e w' ⟨rfl, rfl⟩)
          | (go_at_call 85; ((with_reducible refine (firstOf2 _ _ _ _ _ (by simp)).mono ?_)); rintro e w' ⟨rfl, rfl⟩))
      go_wp2
      go_ret
      exact ⟨ret_int h4.out.symm, rfl⟩
    · have h3 : limE a b = 9 := by unfold limE; rw [if_pos h.out, if_neg h2]
      have h4 := Lib.hid h3
      clear h3
      unfold rng2E at hb
      go_enter Tryz.func57, Tryz.ntmps57
      go_wp2
      go_region_held3 (fun w' => w'.cell? ⟨w.heap.size, 0, none⟩ = some (.int .i64 a) ∧ w'.cell? ⟨w.heap.size, 1, none⟩ = some (.int .i64 b)) (go_keep)
        (first
          | (go_at_call 86; ((with_reducible refine (checkRange_any _ _ _ _).mono ?_)); rintro e w' ⟨rfl, rfl⟩)
          | (go_at_call 85; ((with_reducible refine (firstOf2 _ _ _ _ _ (by simp)).mono ?_)); rintro e w' ⟨rfl, rfl⟩))
      go_wp2
      go_ret
      exact ⟨ret_int h4.out.symm, rfl⟩
  · have h3 : limE a b = rng2E a b := by unfold limE; rw [if_neg h.out]
    have h4 := Lib.hid h3
    clear h3
    unfold rng2E at hb
    go_enter Tryz.func57, Tryz.ntmps57
    go_wp2
    go_region_held3 (fun w' => w'.cell? ⟨w.heap.size, 0, none⟩ = some (.int .i64 a) ∧ w'.cell? ⟨w.heap.size, 1, none⟩ = some (.int .i64 b)) (go_keep)
      (first
        | (go_at_call 86; ((with_reducible refine (checkRange_any _ _ _ _).mono ?_)); rintro e w' ⟨rfl, rfl⟩)
        | (go_at_call 85; ((with_reducible refine (firstOf2 _ _ _ _ _ (by simp)).mono ?_)); rintro e w' ⟨rfl, rfl⟩))
    go_wp2
    go_ret
    exact ⟨ret_int h4.out.symm, rfl⟩

theorem firstOf2c (x y : Int) (b : Nat) (w : World) (h0 : w.cell? ⟨b, 0, none⟩ = some (.int .i64 x)) (h1 : w.cell? ⟨b, 1, none⟩ = some (.int .i64 y)) :
    Calls Tryz.prog 85 #[.slice (some ⟨b, 0, none⟩) 2 2] w fun e w' => e = .returned (.int .i64 (firE [x, y])) ∧ w = w' := by
  refine firstOf_any [x, y] b 0 _ (by simp) (by simp) ?_
  intro k hk
  have : k = 0 ∨ k = 1 := by simp at hk; omega
  rcases this with rfl | rfl <;> simp [*]
theorem firstOf3c (x y z : Int) (b : Nat) (w : World) (h0 : w.cell? ⟨b, 0, none⟩ = some (.int .i64 x)) (h1 : w.cell? ⟨b, 1, none⟩ = some (.int .i64 y)) (h2 : w.cell? ⟨b, 2, none⟩ = some (.int .i64 z)) :
    Calls Tryz.prog 85 #[.slice (some ⟨b, 0, none⟩) 3 3] w fun e w' => e = .returned (.int .i64 (firE [x, y, z])) ∧ w = w' := by
  refine firstOf_any [x, y, z] b 0 _ (by simp) (by simp) ?_
  intro k hk
  have : k = 0 ∨ k = 1 ∨ k = 2 := by simp at hk; omega
  rcases this with rfl | rfl | rfl <;> simp [*]
theorem quo_in (n d : Int) (h0 : 0 ≤ n) (h1 : n ≤ 2000000000000000000) (h2 : 0 < d) : IntKind.i64.wrap (n.tdiv d) = n / d := by
  rw [Int.tdiv_eq_ediv_of_nonneg h0]
  have a1 : 0 ≤ n / d := Int.ediv_nonneg h0 (by omega)
  have a2 : n / d ≤ n := Int.ediv_le_self _ h0
  exact IntWalk.i64_in _ (by omega)
theorem enclose_any (n d : Int) (w : World) (h0 : 0 ≤ n) (h1 : n ≤ 1000000000000000000) (h2 : 0 < d) (h3 : d ≤ 1000000000000000000) :
    Calls Tryz.prog 100 #[.int .i64 n, .int .i64 d] w fun e w' => e = .returned (.agg #[.int .i64 (n / d), .int .i64 ((n + d - 1) / d)]) ∧ (w.alloc (.cells #[.int .i64 (n / d), .int .i64 ((n + d - 1) / d)] 62)).drew = w' := by
  have hq := quo_in n d h0 (by omega) h2
  have hq2 := quo_in (n + d - 1) d (by omega) (by omega) h2
  have hs1 : IntKind.i64.wrap (n + d) = n + d := IntWalk.i64_in _ (by omega)
  have hs2 : IntKind.i64.wrap (n + d - 1) = n + d - 1 := IntWalk.i64_in _ (by omega)
  have hd : ¬ d = 0 := by omega
  have k1 : 1 ≤ d := by omega
  have k2 : 0 ≤ n + d - 1 := by omega
  go_enter Tryz.func100, Tryz.ntmps100
  go_wp2
  go_region_held3 (fun w' => True) (trivial) (fail)
  go_wp2
  refine bodyPost_ret (v := .agg #[.int .i64 (n / d), .int .i64 ((n + d - 1) / d)]) (by simp [results, Tryz.results100, go_sem]) rfl ⟨rfl, rfl⟩
theorem nitrogenOf_any (o h : Int) (w : World) (a1 : 0 ≤ o) (a2 : o ≤ 1000) (a3 : 0 ≤ h) (a4 : h ≤ 1000) :
    Calls Tryz.prog 115 #[.agg #[.int .i64 o, .int .i64 h]] w fun e w' => e = .returned (.int .i64 (1000 - o - h)) ∧ w.alloc (.cells #[.int .i64 o, .int .i64 h] 66) = w' := by
  go_enter Tryz.func115, Tryz.ntmps115
  go_wp2
  go_ret
  exact ⟨rfl, rfl⟩
theorem partsOf_any (o h : Int) (w : World) (a1 : 0 ≤ o) (a2 : o ≤ 1000) (a3 : 0 ≤ h) (a4 : h ≤ 1000) :
    Calls Tryz.prog 111 #[.agg #[.int .i64 o, .int .i64 h]] w fun e w' => e = .returned (.agg #[.int .i64 o, .int .i64 h, .int .i64 (1000 - o - h)]) ∧ (((w.alloc (.cells #[.int .i64 o, .int .i64 h] 66)).alloc (.cells #[.int .i64 o, .int .i64 h, .int .i64 (1000 - o - h)] 141)).alloc (.cells #[.int .i64 o, .int .i64 h] 66)).drew = w' := by
  go_enter Tryz.func111, Tryz.ntmps111
  go_wp2
  go_region_held3 (fun w' => w'.cell? ⟨w.heap.size, 0, none⟩ = some (.int .i64 o) ∧ w'.cell? ⟨w.heap.size, 1, none⟩ = some (.int .i64 h)) (go_keep)
    (first
      | (go_at_call 115; ((with_reducible refine (nitrogenOf_any _ _ _ a1 a2 a3 a4).mono ?_)); rintro e w' ⟨rfl, rfl⟩))
  go_wp2
  refine bodyPost_ret (v := .agg #[.int .i64 o, .int .i64 h, .int .i64 (1000 - o - h)]) (by simp [results, Tryz.results111, go_sem]) rfl ⟨rfl, rfl⟩
end Go.Proofs.YtijdphlejokijaaGreat
