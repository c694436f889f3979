import Derived.Test.YtjkhjjmmkdfjmaaBBVes
import Derived.Outline
namespace Go.Proofs.Ytjkhjjmmkdfjmaa
open Go.ChangeShapes Go.WideShapes Go.ChangeAt Go.RowKit
set_option linter.unusedVariables false
set_option linter.unusedSimpArgs false
attribute [local go_sem ↓] Go.wp_at_zero Go.wp_at_succ
theorem CheckVessels_any (L : List Ve) (A : Option Addr) (cap len : Nat) (E : Int) (w : World) (hlen : Hid (len = L.length)) (hl : len ≤ 1000000) (hsz : Hid (∀ g ∈ L, g.nm.size ≤ 1000000)) (hL : SlRows veV 3 w A L) (hE : Hid (ctV L = E)) :
    Calls Try.prog 18 #[.slice A len cap] w fun e w' => e = .returned (.int .i64 E) ∧ Below w.heap.size w w' := by
  have he := hE.out
  unfold ctV at he
  by_cases h1 : 20 < len
  · have hr : Hid (E = 8) := Lib.hid (by rw [if_pos (by rw [← hlen.out]; exact h1)] at he; exact he.symm)
    have i1 : (20 : Int) < (len : Int) := by omega
    clear he hE hL
    go_enter Try.func18, Try.ntmps18
    go_wp2
    go_ret
    exact ⟨ret_int hr.out.symm, belA⟩
  · rw [if_neg (by rw [← hlen.out]; exact h1)] at he
    have i1 : ¬ (20 : Int) < (len : Int) := by omega
    have HE := Lib.hid he
    have HL := Lib.hid hL
    clear he hE hL
    go_enter Try.func18, Try.ntmps18
    go_wp2_with fail
    refine (named_MixVessel L A cap len E _ hlen hl hsz HL (Lib.hid (by rw [lst_ves]; exact HE.out))).mono ?_
    rintro e x1 ⟨rfl, hb1⟩
    go_wp2
    go_ret
    exact ⟨rfl, belA⟩
theorem baEq {a b : ByteArray} (h : a.data = b.data) : a = b := by
  show ByteArray.mk a.data = ByteArray.mk b.data
  rw [h]
/-- The number of the first vessel with a name, or -1. -/
def fndV (s : ByteArray) : List Ve → Int
  | [] => -1
  | g :: r => if g.nm.data = s.data then 0 else if fndV s r < 0 then -1 else fndV s r + 1
theorem fndV_at {s : ByteArray} {L : List Ve} : ∀ {k : Nat} (hk : k < L.length), L[k].nm = s → (∀ j, (hj : j < k) → (L[j]'(by omega)).nm ≠ s) → fndV s L = k := by
  induction L with
  | nil => intro k hk; simp at hk
  | cons g r ih =>
    intro k hk h1 h2
    unfold fndV
    cases k with
    | zero => rw [if_pos (by simp at h1; rw [h1])]; rfl
    | succ k =>
      have h0 : ¬ g.nm.data = s.data := fun e => h2 0 (by omega) (baEq e)
      have := ih (k := k) (by simpa using hk) (by simpa using h1) (fun j hj => by simpa using h2 (j + 1) (by omega))
      rw [if_neg h0, this, if_neg (by omega)]
      omega
theorem fndV_no {s : ByteArray} {L : List Ve} (h : ∀ g ∈ L, g.nm ≠ s) : fndV s L = -1 := by
  induction L with
  | nil => rfl
  | cons g r ih =>
    unfold fndV
    have h0 : ¬ g.nm.data = s.data := fun e => h g (.head _) (baEq e)
    rw [if_neg h0, ih (fun x hx => h x (.tail _ hx)), if_pos (by omega)]
end Go.Proofs.Ytjkhjjmmkdfjmaa
