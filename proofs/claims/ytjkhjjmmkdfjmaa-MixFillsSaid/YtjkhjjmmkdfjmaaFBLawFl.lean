import Derived.Test.YtjkhjjmmkdfjmaaFBAft
import Derived.Test.YtjkhjjmmkdfjmaaFBCopyV
import Derived.Test.YtjkhjjmmkdfjmaaFBFAwakeB
import Derived.Outline
namespace Go.Proofs.Ytjkhjjmmkdfjmaa
open Go.ChangeShapes Go.WideShapes Go.ChangeAt Go.RowKit
set_option linter.unusedVariables false
set_option linter.unusedSimpArgs false
attribute [local go_sem ↓] Go.wp_at_zero Go.wp_at_succ
theorem dia_take : ∀ (X : List Fl) (r : Rm) (i : Nat) {N : Nat}, dia r X i = (N, 0) → ∀ k, dia r (X.take k) i = (0, 0)
  | [], _, _, _, _, k => by rw [List.take_nil]; rfl
  | x :: l, r, i, N, h, 0 => rfl
  | x :: l, r, i, N, h, k + 1 => by
    unfold dia at h
    rw [List.take_succ_cons]
    unfold dia
    by_cases h1 : stpE r x = 0
    · rw [if_pos h1] at h ⊢; exact dia_take l _ _ h k
    · rw [if_neg h1] at h; exact absurd (Prod.mk.inj h).2 h1
theorem behP_take {L : List Ve} {X : List Fl} {N : Nat} (h : behP L X = (N, 0)) (k : Nat) : behP L (X.take k) = (0, 0) := by
  unfold behP at h ⊢
  by_cases h1 : ctV L = 0
  · rw [if_pos h1] at h ⊢
    by_cases h2 : 200 < X.length
    · rw [if_pos h2] at h; exact absurd (Prod.mk.inj h).2 (by decide)
    · rw [if_neg h2] at h
      rw [if_neg (by rw [List.length_take]; omega)]
      exact dia_take X _ _ h k
  · rw [if_neg h1] at h; exact absurd (Prod.mk.inj h).2 h1
theorem copyVe_n (L : List Ve) (A : Option Addr) (cap n : Nat) (w : World) (hn : Hid (n = L.length)) (hl : n ≤ 1000000) (hc : A = none → cap = 0) (hS : SlRows veV 3 w A L) : Calls Try.prog 15 #[.slice A n cap] w (CopiedVe n L w) := by
  rw [hn.out] at hl ⊢; exact copyVe_any L A cap w hl hc hS
theorem copyFl_n (L : List Fl) (A : Option Addr) (cap n : Nat) (w : World) (hn : Hid (n = L.length)) (hl : n ≤ 1000000) (hc : A = none → cap = 0) (hS : SlRows flV 8 w A L) : Calls Try.prog 16 #[.slice A n cap] w (CopiedFl n L w) := by
  rw [hn.out] at hl ⊢; exact copyFl_any L A cap w hl hc hS
set_option maxRecDepth 100000 in
set_option maxHeartbeats 8000000 in
theorem mixFills_walk (L : List Ve) (A : Option Addr) (cap n : Nat) (X : List Fl) (fA : Option Addr) (fcap m : Nat) (w : World) (hlen : Hid (n = L.length)) (hm : Hid (m = X.length)) (hl : n ≤ 9223372036854775807) (hml : m ≤ 9223372036854775807) (hL : Hid (SlRows veV 3 w A L)) (hX : Hid (SlRows flV 8 w fA X)) (hcap : n ≤ cap) (hcm : (cap : Int) ≤ 9223372036854775807) (hfc : m ≤ fcap) (cA : A = none → cap = 0) (cF : fA = none → fcap = 0) :
    Calls Try.prog 3 #[.slice A n cap, .slice fA m fcap] w fun e w' => e = .returned (.bool true) ∧ Below w.heap.size w w' := by
  have HL : Hid (∀ x, Below w.heap.size w x → SlRows veV 3 x A L) := Lib.hid fun x hx => hL.out.below hx
  have HX : Hid (∀ x, Below w.heap.size w x → SlRows flV 8 x fA X) := Lib.hid fun x hx => hX.out.below hx
  go_enter Try.func3, Try.ntmps3
  go_wp2_with fail
  refine (fawake_any _).mono ?_
  rintro e x1 ⟨rfl, hb1⟩
  have zz1 := hb1.size
  try simp at zz1
  have hc1 : Below w.heap.size w x1 := belA
  have hB1 : Below w.heap.size w x1 := hc1
  have zu1 := hB1.size
  clear hb1 
  go_wp2_with fail
  refine (Short_any L A cap n X fA fcap m _ hlen hl (Lib.hid (HL.out _ belA)) hm hml (Lib.hid (HX.out _ belA))).mono ?_
  rintro e x2 ⟨hsh, hb2⟩
  have hc2 : Below x1.heap.size x1 x2 := belA
  have hB2 : Below w.heap.size w x2 := hB1.trans (hc2.mono hB1.size)
  have zu2 := hB2.size
  clear hb2 hB1 zz1 zu1 hc1
  rcases hsh with rfl | ⟨rfl, hsh⟩
  · go_wp2
    go_ret
    exact ⟨rfl, hB2⟩
  obtain ⟨hs1, hs2, hs3, hs4⟩ := hsh
  have n22 : n ≤ 22 := by have := hlen.out; omega
  have m202 : m ≤ 202 := by have := hm.out; omega
  have hsz : Hid (∀ g ∈ L, g.nm.size ≤ 1000000) := Lib.hid fun g hg => by have := hs1 g hg; omega
  obtain ⟨N, E, hD'⟩ : ∃ N E, behP L X = (N, E) := ⟨_, _, rfl⟩
  have hD := Lib.hid hD'
  obtain ⟨C, hC⟩ : ∃ C, Hid (ctV L = C) := ⟨_, Lib.hid rfl⟩
  clear hs1 hs2 hs3 hs4 hD'
  go_wp2_with fail
  refine (copyVe_n L A cap n _ hlen (by omega) cA (HL.out _ belA)).mono ?_
  rintro e x3 ⟨A1, c1, rfl, hs1, hb3⟩
  have zz3 := hb3.size
  try simp at zz3
  have hc3 : Below x2.heap.size x2 x3 := belA
  have hB3 : Below w.heap.size w x3 := hB2.trans (hc3.mono hB2.size)
  have zu3 := hB3.size
  have HV := Lib.hid hs1
  clear hs1
  clear hb3 hB2 zu2 hc2
  go_wp2_with fail
  refine (copyFl_n X fA fcap m _ hm (by omega) cF (HX.out _ belA)).mono ?_
  rintro e x4 ⟨A2, c2, rfl, hs2, hb4⟩
  have zz4 := hb4.size
  try simp at zz4
  have hc4 : Below x3.heap.size x3 x4 := belA
  have hB4 : Below w.heap.size w x4 := hB3.trans (hc4.mono hB3.size)
  have zu4 := hB4.size
  replace HV := Lib.hid (HV.out.below hc4)
  have HF := Lib.hid hs2
  clear hs2
  clear hb4 hB3 zz3 zu3 hc3
  go_wp2_with fail
  refine (CheckFills_any L A1 c1 n X A2 c2 m N E _ hlen (by omega) hsz HV hm HF hD).mono ?_
  rintro e x5 ⟨rfl, hb5⟩
  have zz5 := hb5.size
  try simp at zz5
  have hc5 : Below x4.heap.size x4 x5 := belA
  have hB5 : Below w.heap.size w x5 := hB4.trans (hc5.mono hB4.size)
  have zu5 := hB5.size
  clear HV HF
  clear hb5 hB4 zz4 zu4 hc4
  go_wp2_with fail
  refine (refFills_any L A cap n X fA fcap m N E _ hlen hcap hcm hsz (Lib.hid (HL.out _ belA)) hm (Lib.hid (HX.out _ belA)) hD).mono ?_
  rintro e x6 ⟨rfl, hb6⟩
  have zz6 := hb6.size
  try simp at zz6
  have hc6 : Below x5.heap.size x5 x6 := belA
  have hB6 : Below w.heap.size w x6 := hB5.trans (hc6.mono hB5.size)
  have zu6 := hB6.size
  clear hb6 hB5 zz5 zu5 hc5
  go_wp2_with fail
  refine (copyVe_n L A cap n _ hlen (by omega) cA (HL.out _ belA)).mono ?_
  rintro e x7 ⟨A3, c3, rfl, hs3, hb7⟩
  have zz7 := hb7.size
  try simp at zz7
  have hc7 : Below x6.heap.size x6 x7 := belA
  have hB7 : Below w.heap.size w x7 := hB6.trans (hc7.mono hB6.size)
  have zu7 := hB7.size
  have HV := Lib.hid hs3
  clear hs3
  clear hb7 hB6 zz6 zu6 hc6
  go_wp2_with fail
  refine (CheckVessels_any L A3 c3 n C _ hlen (by omega) hsz HV.out hC).mono ?_
  rintro e x8 ⟨rfl, hb8⟩
  have zz8 := hb8.size
  try simp at zz8
  have hc8 : Below x7.heap.size x7 x8 := belA
  have hB8 : Below w.heap.size w x8 := hB7.trans (hc8.mono hB7.size)
  have zu8 := hB8.size
  clear HV
  clear hb8 hB7 zz7 zu7 hc7
  go_wp2_with fail
  refine (refVes_any L A cap n C _ hlen hcap hcm hsz (Lib.hid (HL.out _ belA)) hC).mono ?_
  rintro e x9 ⟨rfl, hb9⟩
  have zz9 := hb9.size
  try simp at zz9
  have hc9 : Below x8.heap.size x8 x9 := belA
  have hB9 : Below w.heap.size w x9 := hB8.trans (hc9.mono hB8.size)
  have zu9 := hB9.size
  clear hb9 hB8 zz8 zu8 hc8
  go_wp2
  go_loopw [9] (fun i wr => ∃ q : Nat, q ≤ m ∧ i = .int .i64 q ∧ Below w.heap.size w wr) (fun i _ => m - (intOf i).toNat)
  case atStart => exact ⟨0, by omega, rfl, belA⟩
  case round =>
    obtain ⟨q, hq, rfl, hB⟩ := hrel
    clear hB9 zz9 zu9 hc9
    have hsw := hB.size
    by_cases hE0 : E = 0
    · subst hE0
      by_cases hqm : q < m
      · have qm : (q : Int) < (m : Int) := by omega
        have hqX : q < X.length := by have := hm.out; omega
        obtain ⟨fb, fo, efA⟩ : ∃ b o, fA = some ⟨b, o, none⟩ := by
          rcases hX.out with h | ⟨b, o, e, _⟩
          · rw [h] at hqX; simp at hqX
          · exact ⟨b, o, e⟩
        subst efA
        have hDT : Hid (behP L (X.take q) = (0, 0)) := Lib.hid (behP_take hD.out q)
        have htl : Hid (q = (X.take q).length) := Lib.hid (by rw [List.length_take]; omega)
        have kc2 : (q : Int) ≤ (fcap : Int) := by omega
        have hsl : ∀ x : World, (Instr.slice 23 (.slice (some ⟨fb, fo, none⟩) m fcap) none (some (.int .i64 q)) none).run Try.prog x = .ok (.slice (some ⟨fb, fo, none⟩) q fcap) x := fun x => by simp [go_sem, kc2, Addr.add]
        have HLW : Hid (∀ y, Below wr.heap.size wr y → SlRows veV 3 y A L) := Lib.hid fun y hy => HL.out _ (hB.trans (hy.mono hsw))
        have HXW : Hid (∀ y, Below wr.heap.size wr y → SlRows flV 8 y (some ⟨fb, fo, none⟩) (X.take q)) := Lib.hid fun y hy => SlRows.part (HX.out _ (hB.trans (hy.mono hsw))) q
        have HBW := Lib.hid hB
        clear hB
        go_upto_region 12 with (fail)
        refine wp_region_held_drew (S := (fun w' => True)) (by kernel_rfl) (by trivial) (fun hHeld => ?_)
        refine tkA 0 59 rfl ?_
        refine tkA 2 61 rfl ?_
        refine tkA 3 62 rfl ?_
        refine tkA 4 63 rfl ?_
        refine wpAnyH_ready (rs := [1]) (by kernel_rfl) (by simp) ?_
        refine AllReadyH.cons rfl (fun K hK => ?_) AllReadyH.nil
        go_simp
        refine (copyVe_n L A cap n _ hlen (by omega) cA (HLW.out _ belA)).mono ?_
        rintro e x1 ⟨A4, c4, rfl, hs4, hb1⟩
        have zz1 := hb1.size
        try simp at zz1
        have hc1 : Below wr.heap.size wr x1 := belA
        have hB1 : Below wr.heap.size wr x1 := hc1
        have zu1 := hB1.size
        have HV := Lib.hid hs4
        clear hs4
        clear hb1 
        go_wp2_with fail
        refine hK.out _ _ (by trivial) (fun hHeld => ?_)
        clear hK K
        try simp only [Act.put, sA, sB, sC]
        refine wpAnyH_ready (rs := [5]) (by kernel_rfl) (by simp) ?_
        refine AllReadyH.cons rfl (fun K hK => ?_) AllReadyH.nil
        go_simp
        refine (copyFl_n (X.take q) (some ⟨fb, fo, none⟩) fcap q _ htl (by omega) (fun h => by cases h) (HXW.out _ belA)).mono ?_
        rintro e x2 ⟨A5, c5, rfl, hs5, hb2⟩
        have zz2 := hb2.size
        try simp at zz2
        have hc2 : Below x1.heap.size x1 x2 := belA
        have hB2 : Below wr.heap.size wr x2 := hB1.trans (hc2.mono hB1.size)
        have zu2 := hB2.size
        replace HV := Lib.hid (HV.out.below hc2)
        have HF := Lib.hid hs5
        clear hs5
        clear hb2 hB1 zz1 zu1 hc1
        go_wp2_with fail
        refine hK.out _ _ (by trivial) (fun hHeld => ?_)
        clear hK K
        try simp only [Act.put, sA, sB, sC]
        refine wpAnyH_ready (rs := [6]) (by kernel_rfl) (by simp) ?_
        refine AllReadyH.cons rfl (fun K hK => ?_) AllReadyH.nil
        go_simp
        refine (CheckFills_any L A4 c4 n (X.take q) A5 c5 q 0 0 _ hlen (by omega) hsz HV htl HF hDT).mono ?_
        rintro e x3 ⟨rfl, hb3⟩
        have zz3 := hb3.size
        try simp at zz3
        have hc3 : Below x2.heap.size x2 x3 := belA
        have hB3 : Below wr.heap.size wr x3 := hB2.trans (hc3.mono hB2.size)
        have zu3 := hB3.size
        clear HV HF
        clear hb3 hB2 zz2 zu2 hc2
        go_wp2_with fail
        refine hK.out _ _ (by trivial) (fun hHeld => ?_)
        clear hK K
        try simp only [Act.put, sA, sB, sC]
        refine tkA 7 58 rfl ?_
        refine tkA 8 66 rfl ?_
        refine tkA 9 67 rfl ?_
        refine tkA 10 10 rfl ?_
        refine tkA 11 11 rfl ?_
        refine wpAnyH_done (by kernel_rfl) ?_ _
        have HB9 := Lib.hid (HBW.out.trans (hB3.mono HBW.out.size))
        clear hB3 zz3 zu3 hc3
        go_wp2
        go_roundw
        case rel => exact ⟨q + 1, by omega, by go_num, HB9.out⟩
        case measure => simp [intOf]; omega
      · have qm : ¬ (q : Int) < (m : Int) := by omega
        go_wp2
        go_ret
        exact ⟨rfl, hB⟩
    · have jE : (E == 0) = false := by simpa using hE0
      by_cases hqm : q < m
      · have qm : (q : Int) < (m : Int) := by omega
        go_wp2
        go_ret
        exact ⟨rfl, hB⟩
      · have qm : ¬ (q : Int) < (m : Int) := by omega
        go_wp2
        go_ret
        exact ⟨rfl, hB⟩
theorem mixFills_any (L : List Ve) (A : Option Addr) (cap : Nat) (X : List Fl) (fA : Option Addr) (fcap : Nat) (w : World) (hl : L.length ≤ 9223372036854775807) (cA : A = none → cap = 0) (hL : SlRows veV 3 w A L) (hcap : L.length ≤ cap) (hcm : cap ≤ maxLen) (hml : X.length ≤ 9223372036854775807) (cF : fA = none → fcap = 0) (hX : SlRows flV 8 w fA X) (hfc : X.length ≤ fcap) (_ : fcap ≤ maxLen) :
    Calls Try.prog 3 #[.slice A L.length cap, .slice fA X.length fcap] w fun e w' => e = .returned (.bool true) ∧ Below w.heap.size w w' :=
  mixFills_walk L A cap _ X fA fcap _ w (Lib.hid rfl) (Lib.hid rfl) hl hml (Lib.hid hL) (Lib.hid hX) hcap (by unfold maxLen at hcm; omega) hfc cA cF
end Go.Proofs.Ytjkhjjmmkdfjmaa
