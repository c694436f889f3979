import Derived.Test.YtjkhjjmmkdfjmaaGTFLeaf
import Derived.Deep.DrawnRows
import Derived.Deep.CutRange
import Derived.Lib.SmallJoins
import Derived.Outline
namespace Go.Proofs.Ytjkhjjmmkdfjmaa
open Go.ChangeShapes Go.WideShapes Go.ChangeAt Go.RowKit
set_option linter.unusedVariables false
set_option linter.unusedSimpArgs false
attribute [local go_sem ↓] Go.wp_at_zero Go.wp_at_succ
/-- A letter; a byte of a name. -/
def letB (c : Int) : Bool := decide (97 ≤ c ∧ c ≤ 122 ∨ 65 ≤ c ∧ c ≤ 90)
def digB (c : Int) : Bool := decide (48 ≤ c ∧ c ≤ 57)
def nmcB (c : Int) : Bool := letB c || digB c || c == 45
theorem isLetter_any (c : Int) (w : World) : Calls Try.prog 125 #[.int .u8 c] w fun e w' => e = .returned (.bool (letB c)) ∧ w = w' := by
  go_enter Try.func125, Try.ntmps125
  go_wp2
  all_goals
    go_ret
    exact ⟨ret_bool (by unfold letB; first | rfl | (rw [Bool.eq_iff_iff]; simp; omega)), rfl⟩
theorem isDigit_any (c : Int) (w : World) : Calls Try.prog 128 #[.int .u8 c] w fun e w' => e = .returned (.bool (digB c)) ∧ w = w' := by
  go_enter Try.func128, Try.ntmps128
  go_wp2
  all_goals
    go_ret
    exact ⟨ret_bool (by unfold digB; first | rfl | (rw [Bool.eq_iff_iff]; simp; omega)), rfl⟩
theorem isLetter_t (c : Int) (w : World) (h : letB c = true) : Calls Try.prog 125 #[.int .u8 c] w fun e w' => e = .returned (.bool true) ∧ w = w' := by
  have := isLetter_any c w
  rw [h] at this
  exact this
theorem nameByte_t (c : Int) (w : World) (hh : nmcB c = true) : Calls Try.prog 127 #[.int .u8 c] w fun e w' => e = .returned (.int .i64 0) ∧ w = w' := by
  unfold nmcB at hh
  by_cases h1 : letB c = true
  · clear hh
    go_enter Try.func127, Try.ntmps127
    go_wp2_with (first | (go_at_call 125; ((with_reducible refine (isLetter_any _ _).mono ?_)); rintro e w' ⟨rfl, rfl⟩) | (go_at_call 128; ((with_reducible refine (isDigit_any _ _).mono ?_)); rintro e w' ⟨rfl, rfl⟩))
    go_ret
    exact ⟨rfl, rfl⟩
  · have h1' : letB c = false := by simpa using h1
    by_cases h2 : digB c = true
    · clear hh h1
      go_enter Try.func127, Try.ntmps127
      go_wp2_with (first | (go_at_call 125; ((with_reducible refine (isLetter_any _ _).mono ?_)); rintro e w' ⟨rfl, rfl⟩) | (go_at_call 128; ((with_reducible refine (isDigit_any _ _).mono ?_)); rintro e w' ⟨rfl, rfl⟩))
      go_ret
      exact ⟨rfl, rfl⟩
    · have h2' : digB c = false := by simpa using h2
      have h3 : c = 45 := by rw [h1', h2'] at hh; simpa using hh
      subst h3
      clear hh h1 h2
      go_enter Try.func127, Try.ntmps127
      go_wp2_with (first | (go_at_call 125; ((with_reducible refine (isLetter_any _ _).mono ?_)); rintro e w' ⟨rfl, rfl⟩) | (go_at_call 128; ((with_reducible refine (isDigit_any _ _).mono ?_)); rintro e w' ⟨rfl, rfl⟩))
      go_ret
      exact ⟨rfl, rfl⟩
/-- A byte of a text. -/
def byt (s : ByteArray) (j : Nat) : Int := ((s.data.toList.getD j 0).toNat : Int)
theorem byt_at {s : ByteArray} {j : Nat} (h : j < s.size) : byt s j = (s[j].toNat : Int) := by
  have h2 : j < s.data.toList.length := by simpa using h
  unfold byt
  rw [List.getD_eq_getElem?_getD, List.getElem?_eq_getElem h2]
  rfl
/-- All bytes may stand in a name. -/
def nmAll (s : ByteArray) : Bool := decide (∀ j, j < s.size → nmcB (byt s j) = true)
def nameB (s : ByteArray) : Bool := decide (1 ≤ s.size ∧ s.size ≤ 12) && letB (byt s 0) && nmAll s
def nameE (s : ByteArray) : Int := if nameB s = true then 0 else 4
theorem nmAll_t {s : ByteArray} (h : ∀ j, j < s.size → nmcB (byt s j) = true) : nmAll s = true := by unfold nmAll; simpa using h
theorem nmAll_f {s : ByteArray} {j : Nat} (hj : j < s.size) (h : nmcB (byt s j) = false) : nmAll s = false := by
  unfold nmAll
  rw [decide_eq_false_iff_not]
  intro hh
  rw [hh j hj] at h
  cases h
theorem nameByte_f (c : Int) (w : World) (hh : nmcB c = false) : Calls Try.prog 127 #[.int .u8 c] w fun e w' => e = .returned (.int .i64 4) ∧ w = w' := by
  unfold nmcB at hh
  have h1 : letB c = false := by cases h : letB c <;> simp [h] at hh ⊢
  have h2 : digB c = false := by cases h : digB c <;> simp [h] at hh ⊢
  have h3 : (c == 45) = false := by rw [h1, h2] at hh; simpa using hh
  have h4 : ¬ c = 45 := by simpa using h3
  clear hh
  go_enter Try.func127, Try.ntmps127
  go_wp2_with (first | (go_at_call 125; ((with_reducible refine (isLetter_any _ _).mono ?_)); rintro e w' ⟨rfl, rfl⟩) | (go_at_call 128; ((with_reducible refine (isDigit_any _ _).mono ?_)); rintro e w' ⟨rfl, rfl⟩))
  go_ret
  exact ⟨rfl, rfl⟩
theorem nameByte_any (c E : Int) (w : World) (hE : Hid ((if nmcB c = true then 0 else 4) = E)) : Calls Try.prog 127 #[.int .u8 c] w fun e w' => e = .returned (.int .i64 E) ∧ w = w' := by
  rw [← hE.out]
  cases h : nmcB c with
  | true => exact nameByte_t c w h
  | false => exact nameByte_f c w h
theorem eachByte1_is (i ch F : Int) (c : Nat) (w : World) (hc : w.cell? ⟨c, 0, none⟩ = some (.func (.func 127) #[] #[])) (hF : Hid ((if nmcB ch = true then 0 else 4) = F)) :
    Calls Try.prog 135 #[.int .i64 i, .int .u8 ch, .pointer (some ⟨c, 0, none⟩)] w fun e w' => e = .returned (.int .i64 F) ∧ w = w' := by
  go_enter Try.func135, Try.ntmps135
  go_wp2_with fail
  refine (nameByte_any ch F _ hF).mono ?_
  rintro e w1 ⟨rfl, rfl⟩
  go_wp2
  go_ret
  exact ⟨rfl, rfl⟩
def NumQ (E : Int) (w : World) (e : Ending) (w' : World) : Prop := ∃ n : Int, e = .returned (.tuple #[.int .i64 n, .int .i64 E]) ∧ w = w'
set_option maxRecDepth 100000 in
set_option maxHeartbeats 1000000 in
theorem numByte_any (s : ByteArray) (b cap n c : Nat) (w : World) (hn : Hid (n = s.size)) (hl : n ≤ 1000) (hs : Hid (∀ j, j < s.size → w.cell? ⟨b, j, none⟩ = some (.int .u8 (byt s j)))) (hc : w.cell? ⟨c, 0, none⟩ = some (.func (.func 127) #[] #[])) (E : Int) (hE : Hid ((if nmAll s = true then 0 else 4) = E)) :
    Calls Try.prog 134 #[.slice (some ⟨b, 0, none⟩) n cap, .func (.func 135) #[] #[.pointer (some ⟨c, 0, none⟩)]] w (NumQ E w) := by
  go_enter Try.func134, Try.ntmps134
  go_wp2
  go_loop [11] (fun i => ∃ k : Nat, k ≤ n ∧ i = .int .i64 k ∧ Hid (∀ j, j < k → nmcB (byt s j) = true)) (fun i => n - (intOf i).toNat)
  case atStart => exact ⟨0, by omega, rfl, fun j hj => by omega⟩
  case round =>
    obtain ⟨k, hk, rfl, hz⟩ := hrel
    by_cases hkn : k < n
    · have hks : k < s.size := by have := hn.out; omega
      have kn : (k : Int) < (n : Int) := by omega
      have hcell := hs.out k hks
      have hcell2 : w.cell? ⟨b, 0 + k, none⟩ = some (.int .u8 (byt s k)) := by rw [Nat.zero_add]; exact hcell
      cases hb : nmcB (byt s k) with
      | true =>
        have hz2 : Hid (∀ j, j < k + 1 → nmcB (byt s j) = true) := Lib.hid fun j hj => by
          by_cases e : j = k
          · rw [e]; exact hb
          · exact hz.out j (by omega)
        have HF : Hid ((if nmcB (byt s k) = true then (0 : Int) else 4) = 0) := Lib.hid (if_pos hb)
        clear hz hb
        generalize byt s k = x at *
        go_wp2_with fail
        refine (eachByte1_is _ x 0 c _ hc HF).mono ?_
        rintro e w1 ⟨rfl, rfl⟩
        go_wp2
        go_round
        case rel => exact ⟨k + 1, by omega, by go_num, hz2⟩
        case measure => simp [intOf]; omega
      | false =>
        have hr : Hid (E = 4) := Lib.hid (by rw [← hE.out, nmAll_f hks hb]; rfl)
        have HF : Hid ((if nmcB (byt s k) = true then (0 : Int) else 4) = 4) := Lib.hid (if_neg (by rw [hb]; exact Bool.false_ne_true))
        clear hz hb hE
        generalize byt s k = x at *
        go_wp2_with fail
        refine (eachByte1_is _ x 4 c _ hc HF).mono ?_
        rintro e w1 ⟨rfl, rfl⟩
        go_wp2
        go_ret2
        exact ⟨(k : Int), by rw [hr.out]; rfl, rfl⟩
    · have kn : ¬ (k : Int) < (n : Int) := by omega
      have hr : Hid (E = 0) := Lib.hid (by
        rw [← hE.out, nmAll_t (fun j hj => hz.out j (by have := hn.out; omega))]; rfl)
      clear hz hE
      go_wp2
      go_ret2
      exact ⟨0, by rw [hr.out]; rfl, rfl⟩
theorem eachByte_any (s : ByteArray) (b cap n : Nat) (w : World) (hn : Hid (n = s.size)) (hl : n ≤ 1000) (hbl : b < w.heap.size) (hs : Hid (∀ j, j < s.size → w.cell? ⟨b, j, none⟩ = some (.int .u8 (byt s j)))) (E : Int) (hE : Hid ((if nmAll s = true then 0 else 4) = E)) :
    Calls Try.prog 126 #[.slice (some ⟨b, 0, none⟩) n cap, .func (.func 127) #[] #[]] w fun e w' => e = .returned (.int .i64 E) ∧ Below w.heap.size w w' := by
  go_enter Try.func126, Try.ntmps126
  go_wp2_with fail
  refine (numByte_any s b cap n w.heap.size _ hn hl (Lib.hid fun j hj => (((Below.refl w.heap.size w).alloc (Nat.le_refl _) _).cell (p := ⟨b, j, none⟩) hbl).trans (hs.out j hj)) (by simp [go_sem]) E hE).mono ?_
  rintro e w1 ⟨i, rfl, rfl⟩
  go_wp2
  go_ret
  exact ⟨rfl, belA⟩
set_option maxRecDepth 100000 in
set_option maxHeartbeats 1000000 in
theorem Name_any (s : ByteArray) (E : Int) (w : World) (hs : s.size ≤ 1000000) (hE : Hid (nameE s = E)) : Calls Try.prog 115 #[.string s] w fun e w' => e = .returned (.int .i64 E) ∧ Below w.heap.size w w' := by
  have he := hE.out
  unfold nameE nameB at he
  clear hE
  by_cases h1 : 1 ≤ s.size ∧ s.size ≤ 12
  · have hi : inB (s.size : Int) 1 12 = true := inB_true (by omega) (by omega)
    have hz : 0 < s.size := by omega
    have hz2 : (0 : Int) < (s.size : Int) := by omega
    obtain ⟨c0, hc⟩ : ∃ c : Nat, s[0].toNat = c := ⟨_, rfl⟩
    have hb0 : byt s 0 = (c0 : Int) := by rw [byt_at hz, hc]
    rw [hb0] at he
    cases hl : letB (c0 : Int) with
    | true =>
      have he2 : Hid ((if nmAll s = true then 0 else 4) = E) := Lib.hid (by rw [← he, hl]; simp [h1])
      have hcv : ∀ w : World, (convert 9 197 (.string s)).run Try.prog w = .ok (.slice (some ⟨w.heap.size, 0, none⟩) s.size (grownCap w s.size 0 5)) (Lib.bytesWorld w 5 s) := fun w => Lib.run_convert_string_bytes (P := Try.prog) w 9 197 5 s (u := .string) Try.underlying9 Try.underlying197 Try.underlying5
      have HL := Lib.hid hl
      have HH := Lib.hid h1
      have hBB : Hid (Below w.heap.size w (Lib.bytesWorld w 5 s)) := Lib.hid (Joins.below_bytesWorld _ _ _ _ (Nat.le_refl _))
      clear he h1 hl
      go_enter Try.func115, Try.ntmps115
      go_wp2_with (first | (go_at_call 81; ((with_reducible refine (cWithin_any _ _ _ _).mono ?_)); rintro e w' ⟨rfl, rfl⟩) | (go_at_call 125; ((with_reducible refine (isLetter_t _ _ HL.out).mono ?_)); rintro e w' ⟨rfl, rfl⟩))
      go_wp2_with fail
      refine (eachByte_any s _ _ s.size _ (Lib.hid rfl) (by have := HH.out; omega) (World.block_lt_of_cell? _ _ (Lib.bytesWorld_cell _ _ _ 0 hz)) (Lib.hid fun j hj => Lib.bytesWorld_cell _ _ _ j hj) E he2).mono ?_
      rintro e w1 ⟨rfl, hb1⟩
      have hB1 : Below w.heap.size w w1 := hBB.out.trans (hb1.mono hBB.out.size)
      clear hb1
      go_wp2
      go_ret
      exact ⟨rfl, hB1⟩
    | false =>
      have hr : Hid (E = 4) := Lib.hid (by rw [← he, hl]; simp)
      have HL : Hid (∀ w, Calls Try.prog 125 #[.int .u8 (c0 : Int)] w fun e w' => e = .returned (.bool false) ∧ w = w') := Lib.hid fun w => (by have := isLetter_any (c0 : Int) w; rw [hl] at this; exact this)
      clear he h1 hl
      go_enter Try.func115, Try.ntmps115
      go_wp2_with (first | (go_at_call 81; ((with_reducible refine (cWithin_any _ _ _ _).mono ?_)); rintro e w' ⟨rfl, rfl⟩) | (go_at_call 125; ((with_reducible refine (HL.out _).mono ?_)); rintro e w' ⟨rfl, rfl⟩))
      go_ret
      exact ⟨ret_int hr.out.symm, Below.refl _ _⟩
  · have hi : inB (s.size : Int) 1 12 = false := inB_not.2 (by omega)
    have hr : Hid (E = 4) := Lib.hid (by rw [← he]; simp [h1])
    clear he h1
    go_enter Try.func115, Try.ntmps115
    go_wp2_with (first | (go_at_call 81; ((with_reducible refine (cWithin_any _ _ _ _).mono ?_)); rintro e w' ⟨rfl, rfl⟩))
    go_ret
    exact ⟨ret_int hr.out.symm, Below.refl _ _⟩
end Go.Proofs.Ytjkhjjmmkdfjmaa
