import Derived.Test.YtijdphlejokijaaESPLeaf
import Derived.Outline
namespace Go.Proofs.Ytijdphlejokijaa
open Go.ChangeShapes Go.WideShapes Go.ChangeAt Go.RowKit
set_option linter.unusedVariables false
set_option linter.unusedSimpArgs false

theorem cWithin_any (n a b : Int) (w : World) :
    Calls Try.prog 104 #[.int .i64 n, .int .i64 a, .int .i64 b] w fun e w' => e = .returned (.bool (inB n a b)) ∧ w = w' := by
  by_cases h1 : a ≤ n
  · by_cases h2 : n ≤ b
    · have h3 := inB_true h1 h2
      go_enter Try.func104, Try.ntmps104
      go_wp2
      go_ret
      exact ⟨by first | rfl | exact ret_bool h3.symm, rfl⟩
    · have h3 := inB_f2 (a := a) h2
      go_enter Try.func104, Try.ntmps104
      go_wp2
      go_ret
      exact ⟨by first | rfl | exact ret_bool h3.symm, rfl⟩
  · have h3 := inB_f1 (b := b) h1
    go_enter Try.func104, Try.ntmps104
    go_wp2
    go_ret
    exact ⟨by first | rfl | exact ret_bool h3.symm, rfl⟩
theorem cRange_any (n a b : Int) (w : World) :
    Calls Try.prog 62 #[.int .i64 n, .int .i64 a, .int .i64 b] w fun e w' => e = .returned (.int .i64 (rngE n a b)) ∧ w = w' := by
  rcases inB_cases n a b with h | h
  · have h3 := rngE_t h
    go_enter Try.func62, Try.ntmps62
    go_wp2_with (go_at_call 104; refine (cWithin_any _ _ _ _).mono ?_; rintro e w' ⟨rfl, rfl⟩)
    go_ret
    exact ⟨by first | rfl | exact ret_int h3.symm, rfl⟩
  · have h3 := rngE_f h
    go_enter Try.func62, Try.ntmps62
    go_wp2_with (go_at_call 104; refine (cWithin_any _ _ _ _).mono ?_; rintro e w' ⟨rfl, rfl⟩)
    go_ret
    exact ⟨by first | rfl | exact ret_int h3.symm, rfl⟩
theorem cFirst_any (l : List Int) (b off : Nat) (w : World) (hl : l.length ≤ 1000) (h0 : 0 < l.length)
    (hc : ∀ k, k < l.length → w.cell? ⟨b, off + k, none⟩ = some (.int .i64 (l.getD k 0))) :
    Calls Try.prog 60 #[.slice (some ⟨b, off, none⟩) l.length l.length] w fun e w' => e = .returned (.int .i64 (firE l)) ∧ w = w' := by
  have HC := Lib.hid hc
  clear hc
  go_enter Try.func60, Try.ntmps60
  go_wp2
  go_loop [7] (fun i => ∃ k : Nat, k ≤ l.length ∧ i = .int .i64 k ∧ Hid (∀ j, j < k → l.getD j 0 = 0)) (fun i => l.length - (intOf i).toNat)
  case atStart => exact ⟨0, by omega, rfl, fun j hj => by omega⟩
  case round =>
    obtain ⟨k, hk, rfl, hz⟩ := hrel
    by_cases hlt : k < l.length
    · have hcell := HC.out k hlt
      by_cases hn : l.getD k 0 = 0
      · rw [hn] at hcell
        go_wp2
        go_round
        case rel => exact ⟨k + 1, by omega, by go_num, fun j hj => by
          by_cases e : j = k
          · rw [e]; exact hn
          · exact hz.out j (by omega)⟩
        case measure => simp [intOf]; omega
      · have hr := firE_at hlt hz.out hn
        have hb : (l.getD k 0 != 0) = true := by simp; simpa using hn
        generalize hg : l.getD k 0 = x at *
        clear hg
        go_wp2
        go_ret
        exact ⟨by first | rfl | exact ret_int hr.symm, rfl⟩
    · have hkk : k = l.length := by omega
      have hr : firE l = 0 := firE_z (fun x hx => by
        obtain ⟨j, hj, rfl⟩ := List.getElem_of_mem hx
        have := hz.out j (by omega)
        simpa [hj] using this)
      clear hk
      go_wp2
      go_ret
      exact ⟨by first | rfl | exact ret_int hr.symm, rfl⟩
end Go.Proofs.Ytijdphlejokijaa
