/- What gas.Format returns for every gas. -/
import Derived.Test.YtpagbkbaphjmdaaDoorText
import Derived.Test.YtpagbkbaphjmdaaDoorItoa
import Derived.Test.YtpagbkbaphjmdaaDoorAim
import Derived.Outline
namespace Go.Proofs.YtpagbkbaphjmdaaDoor
open Go.ChangeShapes Go.WideShapes Go.ChangeAt Go.RowKit
open Go.ChangeMaps (setBlock)
set_option linter.unusedVariables false
set_option linter.unusedSimpArgs false

/-- The text of a gas. -/
def fmtL (o h : Int) : List UInt8 :=
  if o = 210 ∧ h = 0 then [97, 105, 114]
  else if o = 1000 ∧ h = 0 then [111, 120, 121, 103, 101, 110]
  else if o = 0 ∧ h = 1000 then [104, 101, 108, 105, 117, 109]
  else if o % 10 ≠ 0 ∨ h % 10 ≠ 0 then [103, 97, 115] ++ dec o ++ [47] ++ dec h
  else if h = 0 then [110, 120] ++ dec (o / 10)
  else [116, 120] ++ dec (o / 10) ++ [47] ++ dec (h / 10)
theorem bapp (a b : Array UInt8) : (⟨a⟩ : ByteArray) ++ ⟨b⟩ = ⟨a ++ b⟩ := by
  apply ByteArray.ext; simp
theorem itoa_is (n : Int) (d : List UInt8) (w : World) (h0 : 0 ≤ n) (h1 : n ≤ 9223372036854775807) (hT : TabOk w) (hd : Hid (dec n = d)) :
    Calls Tryd.prog 18 #[.int .i64 n] w fun e w' => e = .returned (.string ⟨d.toArray⟩) ∧ Below w.heap.size w w' := by
  have := itoa_dec n w h0 h1 hT
  rw [hd.out] at this
  exact this
set_option maxRecDepth 100000 in
set_option maxHeartbeats 2000000 in
theorem Format_A (o h rO : Int) (dO dH : List UInt8) (w : World) (o0 : 0 ≤ o) (o1 : o ≤ 1000) (h0 : 0 ≤ h) (h1 : h ≤ 1000) (hg : gasE o h = 0) (lO : dO.length ≤ 4) (lH : dH.length ≤ 4) (hT : TabOk w) (hr : o % 10 = rO) (r0 : ¬ rO = 0) (m1 : ¬ o = 210) (m2 : ¬ o = 1000) (m3 : ¬ o = 0) (hdO : Hid (dec o = dO)) (hdH : Hid (dec h = dH)) :
    Calls Tryd.prog 6 #[.agg #[.int .i64 o, .int .i64 h]] w fun e w' => e = .returned (.tuple #[.string ⟨([103, 97, 115] ++ dO ++ [47] ++ dH).toArray⟩, .int .i64 0]) ∧ Below w.heap.size w w' := by
  have HT := Lib.hid hT
  clear hT
  have t1 : o.tmod 10 = o % 10 := Int.tmod_eq_emod_of_nonneg o0
  have t2 : h.tmod 10 = h % 10 := Int.tmod_eq_emod_of_nonneg h0
  have t3 : o.tdiv 10 = o / 10 := Int.tdiv_eq_ediv_of_nonneg o0
  have t4 : h.tdiv 10 = h / 10 := Int.tdiv_eq_ediv_of_nonneg h0
  have s1 : ¬ 9223372036854775807 < 3 + dO.length := by omega
  have s2 : ¬ 9223372036854775807 < 3 + dO.length + 1 := by omega
  have s3 : ¬ 9223372036854775807 < 3 + dO.length + 1 + dH.length := by omega
  have s4 : ¬ 9223372036854775807 < 2 + dO.length := by omega
  have s5 : ¬ 9223372036854775807 < 2 + dO.length + 1 := by omega
  have s6 : ¬ 9223372036854775807 < 2 + dO.length + 1 + dH.length := by omega
  have wq1 : IntKind.i64.wrap (o / 10) = o / 10 := IntWalk.i64_in _ (by omega)
  have wq2 : IntKind.i64.wrap (h / 10) = h / 10 := IntWalk.i64_in _ (by omega)
  have wq0 : IntKind.i64.wrap 0 = 0 := by decide
  have q1 : 0 ≤ o / 10 := by omega
  have q2 : o / 10 ≤ 100 := by omega
  have q3 : 0 ≤ h / 10 := by omega
  have q4 : h / 10 ≤ 100 := by omega
  have hrg := rangeM (((w.alloc (.cells #[.int .i64 o, .int .i64 h] 23)).alloc (.cells #[.int .i64 o, .int .i64 h] 23)).alloc (.map namedEs 3)) (w.heap.size + 1 + 1) (by have := alloc_at ((w.alloc (.cells #[.int .i64 o, .int .i64 h] 23)).alloc (.cells #[.int .i64 o, .int .i64 h] 23)) (.map namedEs 3); simpa using this)
  go_enter Tryd.func6, Tryd.ntmps6
  go_wp2_with (first | (go_at_call 17; ((with_reducible refine (namedGases_any _).mono ?_)); rintro e w' ⟨rfl, rfl⟩) | (go_at_call 10; ((with_reducible refine (CheckGas_any _ _ _).mono ?_)); rintro e w' ⟨rfl, rfl⟩))
  go_loopw [14] (fun _ wr => ∃ seen, wr.heap[w.heap.size + 1 + 1 + 1]? = some (.mapIter (some (w.heap.size + 1 + 1)) 3 seen 3) ∧ wr.heap[w.heap.size + 1 + 1]? = some (.map namedEs 3) ∧ Below w.heap.size w wr ∧ w.heap.size + 4 ≤ wr.heap.size ∧ wr.cell? ⟨w.heap.size, 0, none⟩ = some (.int .i64 o) ∧ wr.cell? ⟨w.heap.size, 1, none⟩ = some (.int .i64 h)) (fun _ wr => leftN wr (w.heap.size + 1 + 1 + 1))
  case atStart =>
    refine ⟨#[], ?_, ?_, (by (repeat (first | (with_reducible refine Below.drew ?_) | (with_reducible refine below_drewN ?_ _) | (with_reducible refine Below.alloc ?_ (by first | omega | (simp; done) | (simp; omega) | (simp at *; omega)) _) | (with_reducible refine Below.setCell ?_ (by first | omega | (simp; done) | (simp; omega) | (simp at *; omega)) _) | (with_reducible exact Below.refl _ _) | (with_reducible assumption) | (with_reducible refine Below.trans ?_ (Below.mono (by assumption) (by first | omega | (simp; done) | (simp; omega) | (simp at *; omega))))))), by simp, by simp [go_sem, World.cell?_alloc_past], by simp [go_sem, World.cell?_alloc_past]⟩
    · have := alloc_at (((w.alloc (.cells #[.int .i64 o, .int .i64 h] 23)).alloc (.cells #[.int .i64 o, .int .i64 h] 23)).alloc (.map namedEs 3)) (.mapIter (some (w.heap.size + 1 + 1)) 3 #[] 3)
      simpa using this
    · have := alloc_at ((w.alloc (.cells #[.int .i64 o, .int .i64 h] 23)).alloc (.cells #[.int .i64 o, .int .i64 h] 23)) (.map namedEs 3)
      rw [Below.heap_alloc _ _ _ (by simp)]
      simpa using this
  case round =>
    obtain ⟨seen, hr', hm, hB, hsz, b0, b1⟩ := hrel
    rcases run_next_at (P := Tryd.prog) wr 0 (w.heap.size + 1 + 1 + 1) (w.heap.size + 1 + 1) 3 3 seen namedEs 3 hr' hm namedOld (Nat.le_refl _) with ⟨hh0, hrun⟩ | ⟨e, he, w1, hw1, hrun⟩
    · clear hr' hm
      have sw : w.heap.size < wr.heap.size := by omega
      go_wp2
      go_region_held3 (fun w' => w'.cell? ⟨w.heap.size, 0, none⟩ = some (.int .i64 o) ∧ w'.cell? ⟨w.heap.size, 1, none⟩ = some (.int .i64 h)) (simp [go_sem, World.cell?_alloc_past, *]) (first | (go_at_call 18; (with_reducible refine (itoa_is o dO _ (by omega) (by omega) (HT.out.below (by (repeat (first | (with_reducible refine Below.drew ?_) | (with_reducible refine below_drewN ?_ _) | (with_reducible refine Below.alloc ?_ (by first | omega | (simp; done) | (simp; omega) | (simp at *; omega)) _) | (with_reducible refine Below.setCell ?_ (by first | omega | (simp; done) | (simp; omega) | (simp at *; omega)) _) | (with_reducible exact Below.refl _ _) | (with_reducible assumption) | (with_reducible refine Below.trans ?_ (Below.mono (by assumption) (by first | omega | (simp; done) | (simp; omega) | (simp at *; omega)))))))) hdO).mono ?_); rintro e wN ⟨rfl, hbwN⟩; have zN := hbwN.size; (try simp at zN); have y0 : wN.cell? ⟨w.heap.size, 0, none⟩ = some (.int .i64 o) := (by rw [(bcell hbwN).1 _ _ (by first | (simp; done) | (simp; omega) | omega)]; simp [go_sem, World.cell?_alloc_past, *]); have y1 : wN.cell? ⟨w.heap.size, 1, none⟩ = some (.int .i64 h) := (by rw [(bcell hbwN).1 _ _ (by first | (simp; done) | (simp; omega) | omega)]; simp [go_sem, World.cell?_alloc_past, *]); have hBN : Below w.heap.size w wN := (by (repeat (first | (with_reducible refine Below.drew ?_) | (with_reducible refine below_drewN ?_ _) | (with_reducible refine Below.alloc ?_ (by first | omega | (simp; done) | (simp; omega) | (simp at *; omega)) _) | (with_reducible refine Below.setCell ?_ (by first | omega | (simp; done) | (simp; omega) | (simp at *; omega)) _) | (with_reducible exact Below.refl _ _) | (with_reducible assumption) | (with_reducible refine Below.trans ?_ (Below.mono (by assumption) (by first | omega | (simp; done) | (simp; omega) | (simp at *; omega))))))); have uN : w.heap.size < wN.heap.size := (by omega)) | (go_at_call 18; (with_reducible refine (itoa_is h dH _ (by omega) (by omega) (HT.out.below (by (repeat (first | (with_reducible refine Below.drew ?_) | (with_reducible refine below_drewN ?_ _) | (with_reducible refine Below.alloc ?_ (by first | omega | (simp; done) | (simp; omega) | (simp at *; omega)) _) | (with_reducible refine Below.setCell ?_ (by first | omega | (simp; done) | (simp; omega) | (simp at *; omega)) _) | (with_reducible exact Below.refl _ _) | (with_reducible assumption) | (with_reducible refine Below.trans ?_ (Below.mono (by assumption) (by first | omega | (simp; done) | (simp; omega) | (simp at *; omega)))))))) hdH).mono ?_); rintro e wN ⟨rfl, hbwN⟩; have zN := hbwN.size; (try simp at zN); have y0 : wN.cell? ⟨w.heap.size, 0, none⟩ = some (.int .i64 o) := (by rw [(bcell hbwN).1 _ _ (by first | (simp; done) | (simp; omega) | omega)]; simp [go_sem, World.cell?_alloc_past, *]); have y1 : wN.cell? ⟨w.heap.size, 1, none⟩ = some (.int .i64 h) := (by rw [(bcell hbwN).1 _ _ (by first | (simp; done) | (simp; omega) | omega)]; simp [go_sem, World.cell?_alloc_past, *]); have hBN : Below w.heap.size w wN := (by (repeat (first | (with_reducible refine Below.drew ?_) | (with_reducible refine below_drewN ?_ _) | (with_reducible refine Below.alloc ?_ (by first | omega | (simp; done) | (simp; omega) | (simp at *; omega)) _) | (with_reducible refine Below.setCell ?_ (by first | omega | (simp; done) | (simp; omega) | (simp at *; omega)) _) | (with_reducible exact Below.refl _ _) | (with_reducible assumption) | (with_reducible refine Below.trans ?_ (Below.mono (by assumption) (by first | omega | (simp; done) | (simp; omega) | (simp at *; omega))))))); have uN : w.heap.size < wN.heap.size := (by omega)))
      go_wp2
      go_ret2
      exact ⟨by first | rfl | (simp; done) | (simp [bapp]; done), (by (repeat (first | (with_reducible refine Below.drew ?_) | (with_reducible refine below_drewN ?_ _) | (with_reducible refine Below.alloc ?_ (by first | omega | (simp; done) | (simp; omega) | (simp at *; omega)) _) | (with_reducible refine Below.setCell ?_ (by first | omega | (simp; done) | (simp; omega) | (simp at *; omega)) _) | (with_reducible exact Below.refl _ _) | (with_reducible assumption) | (with_reducible refine Below.trans ?_ (Below.mono (by assumption) (by first | omega | (simp; done) | (simp; omega) | (simp at *; omega)))))))⟩
    · obtain ⟨hmem, _⟩ := mem_left he
      obtain ⟨f1, f2, f3, f4⟩ := stepF (.mapIter (some (w.heap.size + 1 + 1)) 3 (seen.push e.born) 3) hw1 (show w.heap.size + 1 + 1 + 1 < wr.heap.size by omega)
      have hsh := left_shrinks namedEs seen e he
      have hl0 := leftN_eq hr'
      generalize setBlock w1 (w.heap.size + 1 + 1 + 1) (.mapIter (some (w.heap.size + 1 + 1)) 3 (seen.push e.born) 3) = w2 at *
      have hm2 : w2.heap[w.heap.size + 1 + 1]? = some (.map namedEs 3) := by rw [f2 _ (by omega)]; exact hm
      have hen := run_entry_at (P := Tryd.prog) w2 (w.heap.size + 1 + 1 + 1) (w.heap.size + 1 + 1) 3 seen namedEs 3 e f1 hm2 hmem namedNodup
      have c0 : w2.cell? ⟨w.heap.size, 0, none⟩ = some (.int .i64 o) := by rw [(f4 (w.heap.size + 1) (by omega)).cell (p := ⟨w.heap.size, 0, none⟩) (by simp)]; exact b0
      have c1 : w2.cell? ⟨w.heap.size, 1, none⟩ = some (.int .i64 h) := by rw [(f4 (w.heap.size + 1) (by omega)).cell (p := ⟨w.heap.size, 1, none⟩) (by simp)]; exact b1
      have hB2 : Below w.heap.size w w2 := hB.trans (f4 _ (by omega))
      have nn1 : w2.heap.size ≠ w.heap.size := by omega
      have nn2 : w.heap.size < w2.heap.size := by omega
      have HF := Lib.hid f1
      have HM := Lib.hid hm2
      have HS := Lib.hid f3
      have HL := Lib.hid hl0
      have HH := Lib.hid hsh
      clear f1 f2 f3 f4 hm2 hr' hm hw1 b0 b1 hl0 hsh he
      rcases namedMem hmem with rfl | rfl | rfl
      · have hk : eAir.key = .string nAir := rfl
        have hv : eAir.val = .agg #[.int .i64 210, .int .i64 0] := rfl
        rw [hk, hv] at hrun hen
        clear hmem hk hv
        go_wp2
        go_roundw
        case rel =>
          have hs := HS.out
          refine ⟨_, alloc_keep HF.out (by omega), alloc_keep HM.out (by omega), ?_, ?_, ?_, ?_⟩
          · (repeat (first | (with_reducible refine Below.drew ?_) | (with_reducible refine below_drewN ?_ _) | (with_reducible refine Below.alloc ?_ (by first | omega | (simp; done) | (simp; omega) | (simp at *; omega)) _) | (with_reducible refine Below.setCell ?_ (by first | omega | (simp; done) | (simp; omega) | (simp at *; omega)) _) | (with_reducible exact Below.refl _ _) | (with_reducible assumption) | (with_reducible refine Below.trans ?_ (Below.mono (by assumption) (by first | omega | (simp; done) | (simp; omega) | (simp at *; omega))))))
          · simp; omega
          · exact (((Below.refl w2.heap.size w2).alloc (Nat.le_refl _) _).cell (p := ⟨w.heap.size, 0, none⟩) nn2).trans c0
          · exact (((Below.refl w2.heap.size w2).alloc (Nat.le_refl _) _).cell (p := ⟨w.heap.size, 1, none⟩) nn2).trans c1
        case measure =>
          have hs := HS.out
          rw [leftN_eq (alloc_keep HF.out (by omega)), HL.out]
          exact HH.out
      · have hk : eOxy.key = .string nOxy := rfl
        have hv : eOxy.val = .agg #[.int .i64 1000, .int .i64 0] := rfl
        rw [hk, hv] at hrun hen
        clear hmem hk hv
        go_wp2
        go_roundw
        case rel =>
          have hs := HS.out
          refine ⟨_, alloc_keep HF.out (by omega), alloc_keep HM.out (by omega), ?_, ?_, ?_, ?_⟩
          · (repeat (first | (with_reducible refine Below.drew ?_) | (with_reducible refine below_drewN ?_ _) | (with_reducible refine Below.alloc ?_ (by first | omega | (simp; done) | (simp; omega) | (simp at *; omega)) _) | (with_reducible refine Below.setCell ?_ (by first | omega | (simp; done) | (simp; omega) | (simp at *; omega)) _) | (with_reducible exact Below.refl _ _) | (with_reducible assumption) | (with_reducible refine Below.trans ?_ (Below.mono (by assumption) (by first | omega | (simp; done) | (simp; omega) | (simp at *; omega))))))
          · simp; omega
          · exact (((Below.refl w2.heap.size w2).alloc (Nat.le_refl _) _).cell (p := ⟨w.heap.size, 0, none⟩) nn2).trans c0
          · exact (((Below.refl w2.heap.size w2).alloc (Nat.le_refl _) _).cell (p := ⟨w.heap.size, 1, none⟩) nn2).trans c1
        case measure =>
          have hs := HS.out
          rw [leftN_eq (alloc_keep HF.out (by omega)), HL.out]
          exact HH.out
      · have hk : eHel.key = .string nHel := rfl
        have hv : eHel.val = .agg #[.int .i64 0, .int .i64 1000] := rfl
        rw [hk, hv] at hrun hen
        clear hmem hk hv
        go_wp2
        go_roundw
        case rel =>
          have hs := HS.out
          refine ⟨_, alloc_keep HF.out (by omega), alloc_keep HM.out (by omega), ?_, ?_, ?_, ?_⟩
          · (repeat (first | (with_reducible refine Below.drew ?_) | (with_reducible refine below_drewN ?_ _) | (with_reducible refine Below.alloc ?_ (by first | omega | (simp; done) | (simp; omega) | (simp at *; omega)) _) | (with_reducible refine Below.setCell ?_ (by first | omega | (simp; done) | (simp; omega) | (simp at *; omega)) _) | (with_reducible exact Below.refl _ _) | (with_reducible assumption) | (with_reducible refine Below.trans ?_ (Below.mono (by assumption) (by first | omega | (simp; done) | (simp; omega) | (simp at *; omega))))))
          · simp; omega
          · exact (((Below.refl w2.heap.size w2).alloc (Nat.le_refl _) _).cell (p := ⟨w.heap.size, 0, none⟩) nn2).trans c0
          · exact (((Below.refl w2.heap.size w2).alloc (Nat.le_refl _) _).cell (p := ⟨w.heap.size, 1, none⟩) nn2).trans c1
        case measure =>
          have hs := HS.out
          rw [leftN_eq (alloc_keep HF.out (by omega)), HL.out]
          exact HH.out
set_option maxRecDepth 100000 in
set_option maxHeartbeats 2000000 in
theorem Format_B (o h rO : Int) (dO dH : List UInt8) (w : World) (o0 : 0 ≤ o) (o1 : o ≤ 1000) (h0 : 0 ≤ h) (h1 : h ≤ 1000) (hg : gasE o h = 0) (lO : dO.length ≤ 4) (lH : dH.length ≤ 4) (hT : TabOk w) (hr : o % 10 = 0) (hq : h % 10 = rO) (r0 : ¬ rO = 0) (m1 : ¬ h = 0) (m2 : ¬ h = 1000) (hdO : Hid (dec o = dO)) (hdH : Hid (dec h = dH)) :
    Calls Tryd.prog 6 #[.agg #[.int .i64 o, .int .i64 h]] w fun e w' => e = .returned (.tuple #[.string ⟨([103, 97, 115] ++ dO ++ [47] ++ dH).toArray⟩, .int .i64 0]) ∧ Below w.heap.size w w' := by
  have HT := Lib.hid hT
  clear hT
  have t1 : o.tmod 10 = o % 10 := Int.tmod_eq_emod_of_nonneg o0
  have t2 : h.tmod 10 = h % 10 := Int.tmod_eq_emod_of_nonneg h0
  have t3 : o.tdiv 10 = o / 10 := Int.tdiv_eq_ediv_of_nonneg o0
  have t4 : h.tdiv 10 = h / 10 := Int.tdiv_eq_ediv_of_nonneg h0
  have s1 : ¬ 9223372036854775807 < 3 + dO.length := by omega
  have s2 : ¬ 9223372036854775807 < 3 + dO.length + 1 := by omega
  have s3 : ¬ 9223372036854775807 < 3 + dO.length + 1 + dH.length := by omega
  have s4 : ¬ 9223372036854775807 < 2 + dO.length := by omega
  have s5 : ¬ 9223372036854775807 < 2 + dO.length + 1 := by omega
  have s6 : ¬ 9223372036854775807 < 2 + dO.length + 1 + dH.length := by omega
  have wq1 : IntKind.i64.wrap (o / 10) = o / 10 := IntWalk.i64_in _ (by omega)
  have wq2 : IntKind.i64.wrap (h / 10) = h / 10 := IntWalk.i64_in _ (by omega)
  have wq0 : IntKind.i64.wrap 0 = 0 := by decide
  have q1 : 0 ≤ o / 10 := by omega
  have q2 : o / 10 ≤ 100 := by omega
  have q3 : 0 ≤ h / 10 := by omega
  have q4 : h / 10 ≤ 100 := by omega
  have hrg := rangeM (((w.alloc (.cells #[.int .i64 o, .int .i64 h] 23)).alloc (.cells #[.int .i64 o, .int .i64 h] 23)).alloc (.map namedEs 3)) (w.heap.size + 1 + 1) (by have := alloc_at ((w.alloc (.cells #[.int .i64 o, .int .i64 h] 23)).alloc (.cells #[.int .i64 o, .int .i64 h] 23)) (.map namedEs 3); simpa using this)
  go_enter Tryd.func6, Tryd.ntmps6
  go_wp2_with (first | (go_at_call 17; ((with_reducible refine (namedGases_any _).mono ?_)); rintro e w' ⟨rfl, rfl⟩) | (go_at_call 10; ((with_reducible refine (CheckGas_any _ _ _).mono ?_)); rintro e w' ⟨rfl, rfl⟩))
  go_loopw [14] (fun _ wr => ∃ seen, wr.heap[w.heap.size + 1 + 1 + 1]? = some (.mapIter (some (w.heap.size + 1 + 1)) 3 seen 3) ∧ wr.heap[w.heap.size + 1 + 1]? = some (.map namedEs 3) ∧ Below w.heap.size w wr ∧ w.heap.size + 4 ≤ wr.heap.size ∧ wr.cell? ⟨w.heap.size, 0, none⟩ = some (.int .i64 o) ∧ wr.cell? ⟨w.heap.size, 1, none⟩ = some (.int .i64 h)) (fun _ wr => leftN wr (w.heap.size + 1 + 1 + 1))
  case atStart =>
    refine ⟨#[], ?_, ?_, (by (repeat (first | (with_reducible refine Below.drew ?_) | (with_reducible refine below_drewN ?_ _) | (with_reducible refine Below.alloc ?_ (by first | omega | (simp; done) | (simp; omega) | (simp at *; omega)) _) | (with_reducible refine Below.setCell ?_ (by first | omega | (simp; done) | (simp; omega) | (simp at *; omega)) _) | (with_reducible exact Below.refl _ _) | (with_reducible assumption) | (with_reducible refine Below.trans ?_ (Below.mono (by assumption) (by first | omega | (simp; done) | (simp; omega) | (simp at *; omega))))))), by simp, by simp [go_sem, World.cell?_alloc_past], by simp [go_sem, World.cell?_alloc_past]⟩
    · have := alloc_at (((w.alloc (.cells #[.int .i64 o, .int .i64 h] 23)).alloc (.cells #[.int .i64 o, .int .i64 h] 23)).alloc (.map namedEs 3)) (.mapIter (some (w.heap.size + 1 + 1)) 3 #[] 3)
      simpa using this
    · have := alloc_at ((w.alloc (.cells #[.int .i64 o, .int .i64 h] 23)).alloc (.cells #[.int .i64 o, .int .i64 h] 23)) (.map namedEs 3)
      rw [Below.heap_alloc _ _ _ (by simp)]
      simpa using this
  case round =>
    obtain ⟨seen, hr', hm, hB, hsz, b0, b1⟩ := hrel
    rcases run_next_at (P := Tryd.prog) wr 0 (w.heap.size + 1 + 1 + 1) (w.heap.size + 1 + 1) 3 3 seen namedEs 3 hr' hm namedOld (Nat.le_refl _) with ⟨hh0, hrun⟩ | ⟨e, he, w1, hw1, hrun⟩
    · clear hr' hm
      have sw : w.heap.size < wr.heap.size := by omega
      go_wp2
      go_region_held3 (fun w' => w'.cell? ⟨w.heap.size, 0, none⟩ = some (.int .i64 o) ∧ w'.cell? ⟨w.heap.size, 1, none⟩ = some (.int .i64 h)) (simp [go_sem, World.cell?_alloc_past, *]) (first | (go_at_call 18; (with_reducible refine (itoa_is o dO _ (by omega) (by omega) (HT.out.below (by (repeat (first | (with_reducible refine Below.drew ?_) | (with_reducible refine below_drewN ?_ _) | (with_reducible refine Below.alloc ?_ (by first | omega | (simp; done) | (simp; omega) | (simp at *; omega)) _) | (with_reducible refine Below.setCell ?_ (by first | omega | (simp; done) | (simp; omega) | (simp at *; omega)) _) | (with_reducible exact Below.refl _ _) | (with_reducible assumption) | (with_reducible refine Below.trans ?_ (Below.mono (by assumption) (by first | omega | (simp; done) | (simp; omega) | (simp at *; omega)))))))) hdO).mono ?_); rintro e wN ⟨rfl, hbwN⟩; have zN := hbwN.size; (try simp at zN); have y0 : wN.cell? ⟨w.heap.size, 0, none⟩ = some (.int .i64 o) := (by rw [(bcell hbwN).1 _ _ (by first | (simp; done) | (simp; omega) | omega)]; simp [go_sem, World.cell?_alloc_past, *]); have y1 : wN.cell? ⟨w.heap.size, 1, none⟩ = some (.int .i64 h) := (by rw [(bcell hbwN).1 _ _ (by first | (simp; done) | (simp; omega) | omega)]; simp [go_sem, World.cell?_alloc_past, *]); have hBN : Below w.heap.size w wN := (by (repeat (first | (with_reducible refine Below.drew ?_) | (with_reducible refine below_drewN ?_ _) | (with_reducible refine Below.alloc ?_ (by first | omega | (simp; done) | (simp; omega) | (simp at *; omega)) _) | (with_reducible refine Below.setCell ?_ (by first | omega | (simp; done) | (simp; omega) | (simp at *; omega)) _) | (with_reducible exact Below.refl _ _) | (with_reducible assumption) | (with_reducible refine Below.trans ?_ (Below.mono (by assumption) (by first | omega | (simp; done) | (simp; omega) | (simp at *; omega))))))); have uN : w.heap.size < wN.heap.size := (by omega)) | (go_at_call 18; (with_reducible refine (itoa_is h dH _ (by omega) (by omega) (HT.out.below (by (repeat (first | (with_reducible refine Below.drew ?_) | (with_reducible refine below_drewN ?_ _) | (with_reducible refine Below.alloc ?_ (by first | omega | (simp; done) | (simp; omega) | (simp at *; omega)) _) | (with_reducible refine Below.setCell ?_ (by first | omega | (simp; done) | (simp; omega) | (simp at *; omega)) _) | (with_reducible exact Below.refl _ _) | (with_reducible assumption) | (with_reducible refine Below.trans ?_ (Below.mono (by assumption) (by first | omega | (simp; done) | (simp; omega) | (simp at *; omega)))))))) hdH).mono ?_); rintro e wN ⟨rfl, hbwN⟩; have zN := hbwN.size; (try simp at zN); have y0 : wN.cell? ⟨w.heap.size, 0, none⟩ = some (.int .i64 o) := (by rw [(bcell hbwN).1 _ _ (by first | (simp; done) | (simp; omega) | omega)]; simp [go_sem, World.cell?_alloc_past, *]); have y1 : wN.cell? ⟨w.heap.size, 1, none⟩ = some (.int .i64 h) := (by rw [(bcell hbwN).1 _ _ (by first | (simp; done) | (simp; omega) | omega)]; simp [go_sem, World.cell?_alloc_past, *]); have hBN : Below w.heap.size w wN := (by (repeat (first | (with_reducible refine Below.drew ?_) | (with_reducible refine below_drewN ?_ _) | (with_reducible refine Below.alloc ?_ (by first | omega | (simp; done) | (simp; omega) | (simp at *; omega)) _) | (with_reducible refine Below.setCell ?_ (by first | omega | (simp; done) | (simp; omega) | (simp at *; omega)) _) | (with_reducible exact Below.refl _ _) | (with_reducible assumption) | (with_reducible refine Below.trans ?_ (Below.mono (by assumption) (by first | omega | (simp; done) | (simp; omega) | (simp at *; omega))))))); have uN : w.heap.size < wN.heap.size := (by omega)))
      go_wp2
      go_ret2
      exact ⟨by first | rfl | (simp; done) | (simp [bapp]; done), (by (repeat (first | (with_reducible refine Below.drew ?_) | (with_reducible refine below_drewN ?_ _) | (with_reducible refine Below.alloc ?_ (by first | omega | (simp; done) | (simp; omega) | (simp at *; omega)) _) | (with_reducible refine Below.setCell ?_ (by first | omega | (simp; done) | (simp; omega) | (simp at *; omega)) _) | (with_reducible exact Below.refl _ _) | (with_reducible assumption) | (with_reducible refine Below.trans ?_ (Below.mono (by assumption) (by first | omega | (simp; done) | (simp; omega) | (simp at *; omega)))))))⟩
    · obtain ⟨hmem, _⟩ := mem_left he
      obtain ⟨f1, f2, f3, f4⟩ := stepF (.mapIter (some (w.heap.size + 1 + 1)) 3 (seen.push e.born) 3) hw1 (show w.heap.size + 1 + 1 + 1 < wr.heap.size by omega)
      have hsh := left_shrinks namedEs seen e he
      have hl0 := leftN_eq hr'
      generalize setBlock w1 (w.heap.size + 1 + 1 + 1) (.mapIter (some (w.heap.size + 1 + 1)) 3 (seen.push e.born) 3) = w2 at *
      have hm2 : w2.heap[w.heap.size + 1 + 1]? = some (.map namedEs 3) := by rw [f2 _ (by omega)]; exact hm
      have hen := run_entry_at (P := Tryd.prog) w2 (w.heap.size + 1 + 1 + 1) (w.heap.size + 1 + 1) 3 seen namedEs 3 e f1 hm2 hmem namedNodup
      have c0 : w2.cell? ⟨w.heap.size, 0, none⟩ = some (.int .i64 o) := by rw [(f4 (w.heap.size + 1) (by omega)).cell (p := ⟨w.heap.size, 0, none⟩) (by simp)]; exact b0
      have c1 : w2.cell? ⟨w.heap.size, 1, none⟩ = some (.int .i64 h) := by rw [(f4 (w.heap.size + 1) (by omega)).cell (p := ⟨w.heap.size, 1, none⟩) (by simp)]; exact b1
      have hB2 : Below w.heap.size w w2 := hB.trans (f4 _ (by omega))
      have nn1 : w2.heap.size ≠ w.heap.size := by omega
      have nn2 : w.heap.size < w2.heap.size := by omega
      have HF := Lib.hid f1
      have HM := Lib.hid hm2
      have HS := Lib.hid f3
      have HL := Lib.hid hl0
      have HH := Lib.hid hsh
      clear f1 f2 f3 f4 hm2 hr' hm hw1 b0 b1 hl0 hsh he
      rcases namedMem hmem with rfl | rfl | rfl
      · have hk : eAir.key = .string nAir := rfl
        have hv : eAir.val = .agg #[.int .i64 210, .int .i64 0] := rfl
        rw [hk, hv] at hrun hen
        clear hmem hk hv
        go_wp2
        go_roundw
        case rel =>
          have hs := HS.out
          refine ⟨_, alloc_keep HF.out (by omega), alloc_keep HM.out (by omega), ?_, ?_, ?_, ?_⟩
          · (repeat (first | (with_reducible refine Below.drew ?_) | (with_reducible refine below_drewN ?_ _) | (with_reducible refine Below.alloc ?_ (by first | omega | (simp; done) | (simp; omega) | (simp at *; omega)) _) | (with_reducible refine Below.setCell ?_ (by first | omega | (simp; done) | (simp; omega) | (simp at *; omega)) _) | (with_reducible exact Below.refl _ _) | (with_reducible assumption) | (with_reducible refine Below.trans ?_ (Below.mono (by assumption) (by first | omega | (simp; done) | (simp; omega) | (simp at *; omega))))))
          · simp; omega
          · exact (((Below.refl w2.heap.size w2).alloc (Nat.le_refl _) _).cell (p := ⟨w.heap.size, 0, none⟩) nn2).trans c0
          · exact (((Below.refl w2.heap.size w2).alloc (Nat.le_refl _) _).cell (p := ⟨w.heap.size, 1, none⟩) nn2).trans c1
        case measure =>
          have hs := HS.out
          rw [leftN_eq (alloc_keep HF.out (by omega)), HL.out]
          exact HH.out
      · have hk : eOxy.key = .string nOxy := rfl
        have hv : eOxy.val = .agg #[.int .i64 1000, .int .i64 0] := rfl
        rw [hk, hv] at hrun hen
        clear hmem hk hv
        go_wp2
        go_roundw
        case rel =>
          have hs := HS.out
          refine ⟨_, alloc_keep HF.out (by omega), alloc_keep HM.out (by omega), ?_, ?_, ?_, ?_⟩
          · (repeat (first | (with_reducible refine Below.drew ?_) | (with_reducible refine below_drewN ?_ _) | (with_reducible refine Below.alloc ?_ (by first | omega | (simp; done) | (simp; omega) | (simp at *; omega)) _) | (with_reducible refine Below.setCell ?_ (by first | omega | (simp; done) | (simp; omega) | (simp at *; omega)) _) | (with_reducible exact Below.refl _ _) | (with_reducible assumption) | (with_reducible refine Below.trans ?_ (Below.mono (by assumption) (by first | omega | (simp; done) | (simp; omega) | (simp at *; omega))))))
          · simp; omega
          · exact (((Below.refl w2.heap.size w2).alloc (Nat.le_refl _) _).cell (p := ⟨w.heap.size, 0, none⟩) nn2).trans c0
          · exact (((Below.refl w2.heap.size w2).alloc (Nat.le_refl _) _).cell (p := ⟨w.heap.size, 1, none⟩) nn2).trans c1
        case measure =>
          have hs := HS.out
          rw [leftN_eq (alloc_keep HF.out (by omega)), HL.out]
          exact HH.out
      · have hk : eHel.key = .string nHel := rfl
        have hv : eHel.val = .agg #[.int .i64 0, .int .i64 1000] := rfl
        rw [hk, hv] at hrun hen
        clear hmem hk hv
        go_wp2
        go_roundw
        case rel =>
          have hs := HS.out
          refine ⟨_, alloc_keep HF.out (by omega), alloc_keep HM.out (by omega), ?_, ?_, ?_, ?_⟩
          · (repeat (first | (with_reducible refine Below.drew ?_) | (with_reducible refine below_drewN ?_ _) | (with_reducible refine Below.alloc ?_ (by first | omega | (simp; done) | (simp; omega) | (simp at *; omega)) _) | (with_reducible refine Below.setCell ?_ (by first | omega | (simp; done) | (simp; omega) | (simp at *; omega)) _) | (with_reducible exact Below.refl _ _) | (with_reducible assumption) | (with_reducible refine Below.trans ?_ (Below.mono (by assumption) (by first | omega | (simp; done) | (simp; omega) | (simp at *; omega))))))
          · simp; omega
          · exact (((Below.refl w2.heap.size w2).alloc (Nat.le_refl _) _).cell (p := ⟨w.heap.size, 0, none⟩) nn2).trans c0
          · exact (((Below.refl w2.heap.size w2).alloc (Nat.le_refl _) _).cell (p := ⟨w.heap.size, 1, none⟩) nn2).trans c1
        case measure =>
          have hs := HS.out
          rw [leftN_eq (alloc_keep HF.out (by omega)), HL.out]
          exact HH.out
set_option maxRecDepth 100000 in
set_option maxHeartbeats 2000000 in
theorem Format_C (o h rO : Int) (dO dH : List UInt8) (w : World) (o0 : 0 ≤ o) (o1 : o ≤ 1000) (h0 : 0 ≤ h) (h1 : h ≤ 1000) (hg : gasE o h = 0) (lO : dO.length ≤ 4) (lH : dH.length ≤ 4) (hT : TabOk w) (hr : o % 10 = 0) (m1 : ¬ o = 210) (m2 : ¬ o = 1000) (hz : h = 0) (hdO : Hid (dec (o / 10) = dO)) :
    Calls Tryd.prog 6 #[.agg #[.int .i64 o, .int .i64 h]] w fun e w' => e = .returned (.tuple #[.string ⟨([110, 120] ++ dO).toArray⟩, .int .i64 0]) ∧ Below w.heap.size w w' := by
  have HT := Lib.hid hT
  clear hT
  subst hz
  have t1 : o.tmod 10 = o % 10 := Int.tmod_eq_emod_of_nonneg o0
  have t2 : (0:Int).tmod 10 = (0:Int) % 10 := Int.tmod_eq_emod_of_nonneg h0
  have t3 : o.tdiv 10 = o / 10 := Int.tdiv_eq_ediv_of_nonneg o0
  have t4 : (0:Int).tdiv 10 = (0:Int) / 10 := Int.tdiv_eq_ediv_of_nonneg h0
  have s1 : ¬ 9223372036854775807 < 3 + dO.length := by omega
  have s2 : ¬ 9223372036854775807 < 3 + dO.length + 1 := by omega
  have s3 : ¬ 9223372036854775807 < 3 + dO.length + 1 + dH.length := by omega
  have s4 : ¬ 9223372036854775807 < 2 + dO.length := by omega
  have s5 : ¬ 9223372036854775807 < 2 + dO.length + 1 := by omega
  have s6 : ¬ 9223372036854775807 < 2 + dO.length + 1 + dH.length := by omega
  have wq1 : IntKind.i64.wrap (o / 10) = o / 10 := IntWalk.i64_in _ (by omega)
  have wq2 : IntKind.i64.wrap ((0:Int) / 10) = (0:Int) / 10 := IntWalk.i64_in _ (by omega)
  have wq0 : IntKind.i64.wrap 0 = 0 := by decide
  have q1 : 0 ≤ o / 10 := by omega
  have q2 : o / 10 ≤ 100 := by omega
  have q3 : 0 ≤ (0:Int) / 10 := by omega
  have q4 : (0:Int) / 10 ≤ 100 := by omega
  have hrg := rangeM (((w.alloc (.cells #[.int .i64 o, .int .i64 0] 23)).alloc (.cells #[.int .i64 o, .int .i64 0] 23)).alloc (.map namedEs 3)) (w.heap.size + 1 + 1) (by have := alloc_at ((w.alloc (.cells #[.int .i64 o, .int .i64 0] 23)).alloc (.cells #[.int .i64 o, .int .i64 0] 23)) (.map namedEs 3); simpa using this)
  go_enter Tryd.func6, Tryd.ntmps6
  go_wp2_with (first | (go_at_call 17; ((with_reducible refine (namedGases_any _).mono ?_)); rintro e w' ⟨rfl, rfl⟩) | (go_at_call 10; ((with_reducible refine (CheckGas_any _ _ _).mono ?_)); rintro e w' ⟨rfl, rfl⟩))
  go_loopw [14] (fun _ wr => ∃ seen, wr.heap[w.heap.size + 1 + 1 + 1]? = some (.mapIter (some (w.heap.size + 1 + 1)) 3 seen 3) ∧ wr.heap[w.heap.size + 1 + 1]? = some (.map namedEs 3) ∧ Below w.heap.size w wr ∧ w.heap.size + 4 ≤ wr.heap.size ∧ wr.cell? ⟨w.heap.size, 0, none⟩ = some (.int .i64 o) ∧ wr.cell? ⟨w.heap.size, 1, none⟩ = some (.int .i64 0)) (fun _ wr => leftN wr (w.heap.size + 1 + 1 + 1))
  case atStart =>
    refine ⟨#[], ?_, ?_, (by (repeat (first | (with_reducible refine Below.drew ?_) | (with_reducible refine below_drewN ?_ _) | (with_reducible refine Below.alloc ?_ (by first | omega | (simp; done) | (simp; omega) | (simp at *; omega)) _) | (with_reducible refine Below.setCell ?_ (by first | omega | (simp; done) | (simp; omega) | (simp at *; omega)) _) | (with_reducible exact Below.refl _ _) | (with_reducible assumption) | (with_reducible refine Below.trans ?_ (Below.mono (by assumption) (by first | omega | (simp; done) | (simp; omega) | (simp at *; omega))))))), by simp, by simp [go_sem, World.cell?_alloc_past], by simp [go_sem, World.cell?_alloc_past]⟩
    · have := alloc_at (((w.alloc (.cells #[.int .i64 o, .int .i64 0] 23)).alloc (.cells #[.int .i64 o, .int .i64 0] 23)).alloc (.map namedEs 3)) (.mapIter (some (w.heap.size + 1 + 1)) 3 #[] 3)
      simpa using this
    · have := alloc_at ((w.alloc (.cells #[.int .i64 o, .int .i64 0] 23)).alloc (.cells #[.int .i64 o, .int .i64 0] 23)) (.map namedEs 3)
      rw [Below.heap_alloc _ _ _ (by simp)]
      simpa using this
  case round =>
    obtain ⟨seen, hr', hm, hB, hsz, b0, b1⟩ := hrel
    rcases run_next_at (P := Tryd.prog) wr 0 (w.heap.size + 1 + 1 + 1) (w.heap.size + 1 + 1) 3 3 seen namedEs 3 hr' hm namedOld (Nat.le_refl _) with ⟨hh0, hrun⟩ | ⟨e, he, w1, hw1, hrun⟩
    · clear hr' hm
      have sw : w.heap.size < wr.heap.size := by omega
      go_wp2_with ((go_at_call 18; (with_reducible refine (itoa_is (o / 10) dO _ (by omega) (by omega) (HT.out.below (by (repeat (first | (with_reducible refine Below.drew ?_) | (with_reducible refine below_drewN ?_ _) | (with_reducible refine Below.alloc ?_ (by first | omega | (simp; done) | (simp; omega) | (simp at *; omega)) _) | (with_reducible refine Below.setCell ?_ (by first | omega | (simp; done) | (simp; omega) | (simp at *; omega)) _) | (with_reducible exact Below.refl _ _) | (with_reducible assumption) | (with_reducible refine Below.trans ?_ (Below.mono (by assumption) (by first | omega | (simp; done) | (simp; omega) | (simp at *; omega)))))))) hdO).mono ?_); rintro e wN ⟨rfl, hbwN⟩; have zN := hbwN.size; (try simp at zN); have y0 : wN.cell? ⟨w.heap.size, 0, none⟩ = some (.int .i64 o) := (by rw [(bcell hbwN).1 _ _ (by first | (simp; done) | (simp; omega) | omega)]; simp [go_sem, World.cell?_alloc_past, *]); have y1 : wN.cell? ⟨w.heap.size, 1, none⟩ = some (.int .i64 0) := (by rw [(bcell hbwN).1 _ _ (by first | (simp; done) | (simp; omega) | omega)]; simp [go_sem, World.cell?_alloc_past, *]); have hBN : Below w.heap.size w wN := (by (repeat (first | (with_reducible refine Below.drew ?_) | (with_reducible refine below_drewN ?_ _) | (with_reducible refine Below.alloc ?_ (by first | omega | (simp; done) | (simp; omega) | (simp at *; omega)) _) | (with_reducible refine Below.setCell ?_ (by first | omega | (simp; done) | (simp; omega) | (simp at *; omega)) _) | (with_reducible exact Below.refl _ _) | (with_reducible assumption) | (with_reducible refine Below.trans ?_ (Below.mono (by assumption) (by first | omega | (simp; done) | (simp; omega) | (simp at *; omega))))))); have uN : w.heap.size < wN.heap.size := (by omega)))
      go_ret2
      exact ⟨by first | rfl | (simp; done) | (simp [bapp]; done), (by (repeat (first | (with_reducible refine Below.drew ?_) | (with_reducible refine below_drewN ?_ _) | (with_reducible refine Below.alloc ?_ (by first | omega | (simp; done) | (simp; omega) | (simp at *; omega)) _) | (with_reducible refine Below.setCell ?_ (by first | omega | (simp; done) | (simp; omega) | (simp at *; omega)) _) | (with_reducible exact Below.refl _ _) | (with_reducible assumption) | (with_reducible refine Below.trans ?_ (Below.mono (by assumption) (by first | omega | (simp; done) | (simp; omega) | (simp at *; omega)))))))⟩
    · obtain ⟨hmem, _⟩ := mem_left he
      obtain ⟨f1, f2, f3, f4⟩ := stepF (.mapIter (some (w.heap.size + 1 + 1)) 3 (seen.push e.born) 3) hw1 (show w.heap.size + 1 + 1 + 1 < wr.heap.size by omega)
      have hsh := left_shrinks namedEs seen e he
      have hl0 := leftN_eq hr'
      generalize setBlock w1 (w.heap.size + 1 + 1 + 1) (.mapIter (some (w.heap.size + 1 + 1)) 3 (seen.push e.born) 3) = w2 at *
      have hm2 : w2.heap[w.heap.size + 1 + 1]? = some (.map namedEs 3) := by rw [f2 _ (by omega)]; exact hm
      have hen := run_entry_at (P := Tryd.prog) w2 (w.heap.size + 1 + 1 + 1) (w.heap.size + 1 + 1) 3 seen namedEs 3 e f1 hm2 hmem namedNodup
      have c0 : w2.cell? ⟨w.heap.size, 0, none⟩ = some (.int .i64 o) := by rw [(f4 (w.heap.size + 1) (by omega)).cell (p := ⟨w.heap.size, 0, none⟩) (by simp)]; exact b0
      have c1 : w2.cell? ⟨w.heap.size, 1, none⟩ = some (.int .i64 0) := by rw [(f4 (w.heap.size + 1) (by omega)).cell (p := ⟨w.heap.size, 1, none⟩) (by simp)]; exact b1
      have hB2 : Below w.heap.size w w2 := hB.trans (f4 _ (by omega))
      have nn1 : w2.heap.size ≠ w.heap.size := by omega
      have nn2 : w.heap.size < w2.heap.size := by omega
      have HF := Lib.hid f1
      have HM := Lib.hid hm2
      have HS := Lib.hid f3
      have HL := Lib.hid hl0
      have HH := Lib.hid hsh
      clear f1 f2 f3 f4 hm2 hr' hm hw1 b0 b1 hl0 hsh he
      rcases namedMem hmem with rfl | rfl | rfl
      · have hk : eAir.key = .string nAir := rfl
        have hv : eAir.val = .agg #[.int .i64 210, .int .i64 0] := rfl
        rw [hk, hv] at hrun hen
        clear hmem hk hv
        go_wp2
        go_roundw
        case rel =>
          have hs := HS.out
          refine ⟨_, alloc_keep HF.out (by omega), alloc_keep HM.out (by omega), ?_, ?_, ?_, ?_⟩
          · (repeat (first | (with_reducible refine Below.drew ?_) | (with_reducible refine below_drewN ?_ _) | (with_reducible refine Below.alloc ?_ (by first | omega | (simp; done) | (simp; omega) | (simp at *; omega)) _) | (with_reducible refine Below.setCell ?_ (by first | omega | (simp; done) | (simp; omega) | (simp at *; omega)) _) | (with_reducible exact Below.refl _ _) | (with_reducible assumption) | (with_reducible refine Below.trans ?_ (Below.mono (by assumption) (by first | omega | (simp; done) | (simp; omega) | (simp at *; omega))))))
          · simp; omega
          · exact (((Below.refl w2.heap.size w2).alloc (Nat.le_refl _) _).cell (p := ⟨w.heap.size, 0, none⟩) nn2).trans c0
          · exact (((Below.refl w2.heap.size w2).alloc (Nat.le_refl _) _).cell (p := ⟨w.heap.size, 1, none⟩) nn2).trans c1
        case measure =>
          have hs := HS.out
          rw [leftN_eq (alloc_keep HF.out (by omega)), HL.out]
          exact HH.out
      · have hk : eOxy.key = .string nOxy := rfl
        have hv : eOxy.val = .agg #[.int .i64 1000, .int .i64 0] := rfl
        rw [hk, hv] at hrun hen
        clear hmem hk hv
        go_wp2
        go_roundw
        case rel =>
          have hs := HS.out
          refine ⟨_, alloc_keep HF.out (by omega), alloc_keep HM.out (by omega), ?_, ?_, ?_, ?_⟩
          · (repeat (first | (with_reducible refine Below.drew ?_) | (with_reducible refine below_drewN ?_ _) | (with_reducible refine Below.alloc ?_ (by first | omega | (simp; done) | (simp; omega) | (simp at *; omega)) _) | (with_reducible refine Below.setCell ?_ (by first | omega | (simp; done) | (simp; omega) | (simp at *; omega)) _) | (with_reducible exact Below.refl _ _) | (with_reducible assumption) | (with_reducible refine Below.trans ?_ (Below.mono (by assumption) (by first | omega | (simp; done) | (simp; omega) | (simp at *; omega))))))
          · simp; omega
          · exact (((Below.refl w2.heap.size w2).alloc (Nat.le_refl _) _).cell (p := ⟨w.heap.size, 0, none⟩) nn2).trans c0
          · exact (((Below.refl w2.heap.size w2).alloc (Nat.le_refl _) _).cell (p := ⟨w.heap.size, 1, none⟩) nn2).trans c1
        case measure =>
          have hs := HS.out
          rw [leftN_eq (alloc_keep HF.out (by omega)), HL.out]
          exact HH.out
      · have hk : eHel.key = .string nHel := rfl
        have hv : eHel.val = .agg #[.int .i64 0, .int .i64 1000] := rfl
        rw [hk, hv] at hrun hen
        clear hmem hk hv
        go_wp2
        go_roundw
        case rel =>
          have hs := HS.out
          refine ⟨_, alloc_keep HF.out (by omega), alloc_keep HM.out (by omega), ?_, ?_, ?_, ?_⟩
          · (repeat (first | (with_reducible refine Below.drew ?_) | (with_reducible refine below_drewN ?_ _) | (with_reducible refine Below.alloc ?_ (by first | omega | (simp; done) | (simp; omega) | (simp at *; omega)) _) | (with_reducible refine Below.setCell ?_ (by first | omega | (simp; done) | (simp; omega) | (simp at *; omega)) _) | (with_reducible exact Below.refl _ _) | (with_reducible assumption) | (with_reducible refine Below.trans ?_ (Below.mono (by assumption) (by first | omega | (simp; done) | (simp; omega) | (simp at *; omega))))))
          · simp; omega
          · exact (((Below.refl w2.heap.size w2).alloc (Nat.le_refl _) _).cell (p := ⟨w.heap.size, 0, none⟩) nn2).trans c0
          · exact (((Below.refl w2.heap.size w2).alloc (Nat.le_refl _) _).cell (p := ⟨w.heap.size, 1, none⟩) nn2).trans c1
        case measure =>
          have hs := HS.out
          rw [leftN_eq (alloc_keep HF.out (by omega)), HL.out]
          exact HH.out
set_option maxRecDepth 100000 in
set_option maxHeartbeats 2000000 in
theorem Format_D (o h rO : Int) (dO dH : List UInt8) (w : World) (o0 : 0 ≤ o) (o1 : o ≤ 1000) (h0 : 0 ≤ h) (h1 : h ≤ 1000) (hg : gasE o h = 0) (lO : dO.length ≤ 4) (lH : dH.length ≤ 4) (hT : TabOk w) (hr : o % 10 = 0) (hq : h % 10 = 0) (hz : ¬ h = 0) (m1 : ¬ o = 0) (hdO : Hid (dec (o / 10) = dO)) (hdH : Hid (dec (h / 10) = dH)) :
    Calls Tryd.prog 6 #[.agg #[.int .i64 o, .int .i64 h]] w fun e w' => e = .returned (.tuple #[.string ⟨([116, 120] ++ dO ++ [47] ++ dH).toArray⟩, .int .i64 0]) ∧ Below w.heap.size w w' := by
  have HT := Lib.hid hT
  clear hT
  have t1 : o.tmod 10 = o % 10 := Int.tmod_eq_emod_of_nonneg o0
  have t2 : h.tmod 10 = h % 10 := Int.tmod_eq_emod_of_nonneg h0
  have t3 : o.tdiv 10 = o / 10 := Int.tdiv_eq_ediv_of_nonneg o0
  have t4 : h.tdiv 10 = h / 10 := Int.tdiv_eq_ediv_of_nonneg h0
  have s1 : ¬ 9223372036854775807 < 3 + dO.length := by omega
  have s2 : ¬ 9223372036854775807 < 3 + dO.length + 1 := by omega
  have s3 : ¬ 9223372036854775807 < 3 + dO.length + 1 + dH.length := by omega
  have s4 : ¬ 9223372036854775807 < 2 + dO.length := by omega
  have s5 : ¬ 9223372036854775807 < 2 + dO.length + 1 := by omega
  have s6 : ¬ 9223372036854775807 < 2 + dO.length + 1 + dH.length := by omega
  have wq1 : IntKind.i64.wrap (o / 10) = o / 10 := IntWalk.i64_in _ (by omega)
  have wq2 : IntKind.i64.wrap (h / 10) = h / 10 := IntWalk.i64_in _ (by omega)
  have wq0 : IntKind.i64.wrap 0 = 0 := by decide
  have q1 : 0 ≤ o / 10 := by omega
  have q2 : o / 10 ≤ 100 := by omega
  have q3 : 0 ≤ h / 10 := by omega
  have q4 : h / 10 ≤ 100 := by omega
  have hrg := rangeM (((w.alloc (.cells #[.int .i64 o, .int .i64 h] 23)).alloc (.cells #[.int .i64 o, .int .i64 h] 23)).alloc (.map namedEs 3)) (w.heap.size + 1 + 1) (by have := alloc_at ((w.alloc (.cells #[.int .i64 o, .int .i64 h] 23)).alloc (.cells #[.int .i64 o, .int .i64 h] 23)) (.map namedEs 3); simpa using this)
  go_enter Tryd.func6, Tryd.ntmps6
  go_wp2_with (first | (go_at_call 17; ((with_reducible refine (namedGases_any _).mono ?_)); rintro e w' ⟨rfl, rfl⟩) | (go_at_call 10; ((with_reducible refine (CheckGas_any _ _ _).mono ?_)); rintro e w' ⟨rfl, rfl⟩))
  go_loopw [14] (fun _ wr => ∃ seen, wr.heap[w.heap.size + 1 + 1 + 1]? = some (.mapIter (some (w.heap.size + 1 + 1)) 3 seen 3) ∧ wr.heap[w.heap.size + 1 + 1]? = some (.map namedEs 3) ∧ Below w.heap.size w wr ∧ w.heap.size + 4 ≤ wr.heap.size ∧ wr.cell? ⟨w.heap.size, 0, none⟩ = some (.int .i64 o) ∧ wr.cell? ⟨w.heap.size, 1, none⟩ = some (.int .i64 h)) (fun _ wr => leftN wr (w.heap.size + 1 + 1 + 1))
  case atStart =>
    refine ⟨#[], ?_, ?_, (by (repeat (first | (with_reducible refine Below.drew ?_) | (with_reducible refine below_drewN ?_ _) | (with_reducible refine Below.alloc ?_ (by first | omega | (simp; done) | (simp; omega) | (simp at *; omega)) _) | (with_reducible refine Below.setCell ?_ (by first | omega | (simp; done) | (simp; omega) | (simp at *; omega)) _) | (with_reducible exact Below.refl _ _) | (with_reducible assumption) | (with_reducible refine Below.trans ?_ (Below.mono (by assumption) (by first | omega | (simp; done) | (simp; omega) | (simp at *; omega))))))), by simp, by simp [go_sem, World.cell?_alloc_past], by simp [go_sem, World.cell?_alloc_past]⟩
    · have := alloc_at (((w.alloc (.cells #[.int .i64 o, .int .i64 h] 23)).alloc (.cells #[.int .i64 o, .int .i64 h] 23)).alloc (.map namedEs 3)) (.mapIter (some (w.heap.size + 1 + 1)) 3 #[] 3)
      simpa using this
    · have := alloc_at ((w.alloc (.cells #[.int .i64 o, .int .i64 h] 23)).alloc (.cells #[.int .i64 o, .int .i64 h] 23)) (.map namedEs 3)
      rw [Below.heap_alloc _ _ _ (by simp)]
      simpa using this
  case round =>
    obtain ⟨seen, hr', hm, hB, hsz, b0, b1⟩ := hrel
    rcases run_next_at (P := Tryd.prog) wr 0 (w.heap.size + 1 + 1 + 1) (w.heap.size + 1 + 1) 3 3 seen namedEs 3 hr' hm namedOld (Nat.le_refl _) with ⟨hh0, hrun⟩ | ⟨e, he, w1, hw1, hrun⟩
    · clear hr' hm
      have sw : w.heap.size < wr.heap.size := by omega
      go_wp2
      go_region_held3 (fun w' => w'.cell? ⟨w.heap.size, 0, none⟩ = some (.int .i64 o) ∧ w'.cell? ⟨w.heap.size, 1, none⟩ = some (.int .i64 h)) (simp [go_sem, World.cell?_alloc_past, *]) (first | (go_at_call 18; (with_reducible refine (itoa_is (o / 10) dO _ (by omega) (by omega) (HT.out.below (by (repeat (first | (with_reducible refine Below.drew ?_) | (with_reducible refine below_drewN ?_ _) | (with_reducible refine Below.alloc ?_ (by first | omega | (simp; done) | (simp; omega) | (simp at *; omega)) _) | (with_reducible refine Below.setCell ?_ (by first | omega | (simp; done) | (simp; omega) | (simp at *; omega)) _) | (with_reducible exact Below.refl _ _) | (with_reducible assumption) | (with_reducible refine Below.trans ?_ (Below.mono (by assumption) (by first | omega | (simp; done) | (simp; omega) | (simp at *; omega)))))))) hdO).mono ?_); rintro e wN ⟨rfl, hbwN⟩; have zN := hbwN.size; (try simp at zN); have y0 : wN.cell? ⟨w.heap.size, 0, none⟩ = some (.int .i64 o) := (by rw [(bcell hbwN).1 _ _ (by first | (simp; done) | (simp; omega) | omega)]; simp [go_sem, World.cell?_alloc_past, *]); have y1 : wN.cell? ⟨w.heap.size, 1, none⟩ = some (.int .i64 h) := (by rw [(bcell hbwN).1 _ _ (by first | (simp; done) | (simp; omega) | omega)]; simp [go_sem, World.cell?_alloc_past, *]); have hBN : Below w.heap.size w wN := (by (repeat (first | (with_reducible refine Below.drew ?_) | (with_reducible refine below_drewN ?_ _) | (with_reducible refine Below.alloc ?_ (by first | omega | (simp; done) | (simp; omega) | (simp at *; omega)) _) | (with_reducible refine Below.setCell ?_ (by first | omega | (simp; done) | (simp; omega) | (simp at *; omega)) _) | (with_reducible exact Below.refl _ _) | (with_reducible assumption) | (with_reducible refine Below.trans ?_ (Below.mono (by assumption) (by first | omega | (simp; done) | (simp; omega) | (simp at *; omega))))))); have uN : w.heap.size < wN.heap.size := (by omega)) | (go_at_call 18; (with_reducible refine (itoa_is (h / 10) dH _ (by omega) (by omega) (HT.out.below (by (repeat (first | (with_reducible refine Below.drew ?_) | (with_reducible refine below_drewN ?_ _) | (with_reducible refine Below.alloc ?_ (by first | omega | (simp; done) | (simp; omega) | (simp at *; omega)) _) | (with_reducible refine Below.setCell ?_ (by first | omega | (simp; done) | (simp; omega) | (simp at *; omega)) _) | (with_reducible exact Below.refl _ _) | (with_reducible assumption) | (with_reducible refine Below.trans ?_ (Below.mono (by assumption) (by first | omega | (simp; done) | (simp; omega) | (simp at *; omega)))))))) hdH).mono ?_); rintro e wN ⟨rfl, hbwN⟩; have zN := hbwN.size; (try simp at zN); have y0 : wN.cell? ⟨w.heap.size, 0, none⟩ = some (.int .i64 o) := (by rw [(bcell hbwN).1 _ _ (by first | (simp; done) | (simp; omega) | omega)]; simp [go_sem, World.cell?_alloc_past, *]); have y1 : wN.cell? ⟨w.heap.size, 1, none⟩ = some (.int .i64 h) := (by rw [(bcell hbwN).1 _ _ (by first | (simp; done) | (simp; omega) | omega)]; simp [go_sem, World.cell?_alloc_past, *]); have hBN : Below w.heap.size w wN := (by (repeat (first | (with_reducible refine Below.drew ?_) | (with_reducible refine below_drewN ?_ _) | (with_reducible refine Below.alloc ?_ (by first | omega | (simp; done) | (simp; omega) | (simp at *; omega)) _) | (with_reducible refine Below.setCell ?_ (by first | omega | (simp; done) | (simp; omega) | (simp at *; omega)) _) | (with_reducible exact Below.refl _ _) | (with_reducible assumption) | (with_reducible refine Below.trans ?_ (Below.mono (by assumption) (by first | omega | (simp; done) | (simp; omega) | (simp at *; omega))))))); have uN : w.heap.size < wN.heap.size := (by omega)))
      go_wp2
      go_ret2
      exact ⟨by first | rfl | (simp; done) | (simp [bapp]; done), (by (repeat (first | (with_reducible refine Below.drew ?_) | (with_reducible refine below_drewN ?_ _) | (with_reducible refine Below.alloc ?_ (by first | omega | (simp; done) | (simp; omega) | (simp at *; omega)) _) | (with_reducible refine Below.setCell ?_ (by first | omega | (simp; done) | (simp; omega) | (simp at *; omega)) _) | (with_reducible exact Below.refl _ _) | (with_reducible assumption) | (with_reducible refine Below.trans ?_ (Below.mono (by assumption) (by first | omega | (simp; done) | (simp; omega) | (simp at *; omega)))))))⟩
    · obtain ⟨hmem, _⟩ := mem_left he
      obtain ⟨f1, f2, f3, f4⟩ := stepF (.mapIter (some (w.heap.size + 1 + 1)) 3 (seen.push e.born) 3) hw1 (show w.heap.size + 1 + 1 + 1 < wr.heap.size by omega)
      have hsh := left_shrinks namedEs seen e he
      have hl0 := leftN_eq hr'
      generalize setBlock w1 (w.heap.size + 1 + 1 + 1) (.mapIter (some (w.heap.size + 1 + 1)) 3 (seen.push e.born) 3) = w2 at *
      have hm2 : w2.heap[w.heap.size + 1 + 1]? = some (.map namedEs 3) := by rw [f2 _ (by omega)]; exact hm
      have hen := run_entry_at (P := Tryd.prog) w2 (w.heap.size + 1 + 1 + 1) (w.heap.size + 1 + 1) 3 seen namedEs 3 e f1 hm2 hmem namedNodup
      have c0 : w2.cell? ⟨w.heap.size, 0, none⟩ = some (.int .i64 o) := by rw [(f4 (w.heap.size + 1) (by omega)).cell (p := ⟨w.heap.size, 0, none⟩) (by simp)]; exact b0
      have c1 : w2.cell? ⟨w.heap.size, 1, none⟩ = some (.int .i64 h) := by rw [(f4 (w.heap.size + 1) (by omega)).cell (p := ⟨w.heap.size, 1, none⟩) (by simp)]; exact b1
      have hB2 : Below w.heap.size w w2 := hB.trans (f4 _ (by omega))
      have nn1 : w2.heap.size ≠ w.heap.size := by omega
      have nn2 : w.heap.size < w2.heap.size := by omega
      have HF := Lib.hid f1
      have HM := Lib.hid hm2
      have HS := Lib.hid f3
      have HL := Lib.hid hl0
      have HH := Lib.hid hsh
      clear f1 f2 f3 f4 hm2 hr' hm hw1 b0 b1 hl0 hsh he
      rcases namedMem hmem with rfl | rfl | rfl
      · have hk : eAir.key = .string nAir := rfl
        have hv : eAir.val = .agg #[.int .i64 210, .int .i64 0] := rfl
        rw [hk, hv] at hrun hen
        clear hmem hk hv
        go_wp2
        go_roundw
        case rel =>
          have hs := HS.out
          refine ⟨_, alloc_keep HF.out (by omega), alloc_keep HM.out (by omega), ?_, ?_, ?_, ?_⟩
          · (repeat (first | (with_reducible refine Below.drew ?_) | (with_reducible refine below_drewN ?_ _) | (with_reducible refine Below.alloc ?_ (by first | omega | (simp; done) | (simp; omega) | (simp at *; omega)) _) | (with_reducible refine Below.setCell ?_ (by first | omega | (simp; done) | (simp; omega) | (simp at *; omega)) _) | (with_reducible exact Below.refl _ _) | (with_reducible assumption) | (with_reducible refine Below.trans ?_ (Below.mono (by assumption) (by first | omega | (simp; done) | (simp; omega) | (simp at *; omega))))))
          · simp; omega
          · exact (((Below.refl w2.heap.size w2).alloc (Nat.le_refl _) _).cell (p := ⟨w.heap.size, 0, none⟩) nn2).trans c0
          · exact (((Below.refl w2.heap.size w2).alloc (Nat.le_refl _) _).cell (p := ⟨w.heap.size, 1, none⟩) nn2).trans c1
        case measure =>
          have hs := HS.out
          rw [leftN_eq (alloc_keep HF.out (by omega)), HL.out]
          exact HH.out
      · have hk : eOxy.key = .string nOxy := rfl
        have hv : eOxy.val = .agg #[.int .i64 1000, .int .i64 0] := rfl
        rw [hk, hv] at hrun hen
        clear hmem hk hv
        go_wp2
        go_roundw
        case rel =>
          have hs := HS.out
          refine ⟨_, alloc_keep HF.out (by omega), alloc_keep HM.out (by omega), ?_, ?_, ?_, ?_⟩
          · (repeat (first | (with_reducible refine Below.drew ?_) | (with_reducible refine below_drewN ?_ _) | (with_reducible refine Below.alloc ?_ (by first | omega | (simp; done) | (simp; omega) | (simp at *; omega)) _) | (with_reducible refine Below.setCell ?_ (by first | omega | (simp; done) | (simp; omega) | (simp at *; omega)) _) | (with_reducible exact Below.refl _ _) | (with_reducible assumption) | (with_reducible refine Below.trans ?_ (Below.mono (by assumption) (by first | omega | (simp; done) | (simp; omega) | (simp at *; omega))))))
          · simp; omega
          · exact (((Below.refl w2.heap.size w2).alloc (Nat.le_refl _) _).cell (p := ⟨w.heap.size, 0, none⟩) nn2).trans c0
          · exact (((Below.refl w2.heap.size w2).alloc (Nat.le_refl _) _).cell (p := ⟨w.heap.size, 1, none⟩) nn2).trans c1
        case measure =>
          have hs := HS.out
          rw [leftN_eq (alloc_keep HF.out (by omega)), HL.out]
          exact HH.out
      · have hk : eHel.key = .string nHel := rfl
        have hv : eHel.val = .agg #[.int .i64 0, .int .i64 1000] := rfl
        rw [hk, hv] at hrun hen
        clear hmem hk hv
        go_wp2
        go_roundw
        case rel =>
          have hs := HS.out
          refine ⟨_, alloc_keep HF.out (by omega), alloc_keep HM.out (by omega), ?_, ?_, ?_, ?_⟩
          · (repeat (first | (with_reducible refine Below.drew ?_) | (with_reducible refine below_drewN ?_ _) | (with_reducible refine Below.alloc ?_ (by first | omega | (simp; done) | (simp; omega) | (simp at *; omega)) _) | (with_reducible refine Below.setCell ?_ (by first | omega | (simp; done) | (simp; omega) | (simp at *; omega)) _) | (with_reducible exact Below.refl _ _) | (with_reducible assumption) | (with_reducible refine Below.trans ?_ (Below.mono (by assumption) (by first | omega | (simp; done) | (simp; omega) | (simp at *; omega))))))
          · simp; omega
          · exact (((Below.refl w2.heap.size w2).alloc (Nat.le_refl _) _).cell (p := ⟨w.heap.size, 0, none⟩) nn2).trans c0
          · exact (((Below.refl w2.heap.size w2).alloc (Nat.le_refl _) _).cell (p := ⟨w.heap.size, 1, none⟩) nn2).trans c1
        case measure =>
          have hs := HS.out
          rw [leftN_eq (alloc_keep HF.out (by omega)), HL.out]
          exact HH.out
set_option maxRecDepth 100000 in
set_option maxHeartbeats 2000000 in
theorem Format_E (o h rO : Int) (dO dH : List UInt8) (w : World) (o0 : 0 ≤ o) (o1 : o ≤ 1000) (h0 : 0 ≤ h) (h1 : h ≤ 1000) (hg : gasE o h = 0) (lO : dO.length ≤ 4) (lH : dH.length ≤ 4) (hT : TabOk w) (hr : o = 0) (hq : h % 10 = 0) (hz : ¬ h = 0) (m2 : ¬ h = 1000) (hdO : Hid (dec 0 = dO)) (hdH : Hid (dec (h / 10) = dH)) :
    Calls Tryd.prog 6 #[.agg #[.int .i64 o, .int .i64 h]] w fun e w' => e = .returned (.tuple #[.string ⟨([116, 120] ++ dO ++ [47] ++ dH).toArray⟩, .int .i64 0]) ∧ Below w.heap.size w w' := by
  have HT := Lib.hid hT
  clear hT
  subst hr
  have t1 : (0:Int).tmod 10 = (0:Int) % 10 := Int.tmod_eq_emod_of_nonneg o0
  have t2 : h.tmod 10 = h % 10 := Int.tmod_eq_emod_of_nonneg h0
  have t3 : (0:Int).tdiv 10 = (0:Int) / 10 := Int.tdiv_eq_ediv_of_nonneg o0
  have t4 : h.tdiv 10 = h / 10 := Int.tdiv_eq_ediv_of_nonneg h0
  have s1 : ¬ 9223372036854775807 < 3 + dO.length := by omega
  have s2 : ¬ 9223372036854775807 < 3 + dO.length + 1 := by omega
  have s3 : ¬ 9223372036854775807 < 3 + dO.length + 1 + dH.length := by omega
  have s4 : ¬ 9223372036854775807 < 2 + dO.length := by omega
  have s5 : ¬ 9223372036854775807 < 2 + dO.length + 1 := by omega
  have s6 : ¬ 9223372036854775807 < 2 + dO.length + 1 + dH.length := by omega
  have wq1 : IntKind.i64.wrap ((0:Int) / 10) = (0:Int) / 10 := IntWalk.i64_in _ (by omega)
  have wq2 : IntKind.i64.wrap (h / 10) = h / 10 := IntWalk.i64_in _ (by omega)
  have wq0 : IntKind.i64.wrap 0 = 0 := by decide
  have q1 : 0 ≤ (0:Int) / 10 := by omega
  have q2 : (0:Int) / 10 ≤ 100 := by omega
  have q3 : 0 ≤ h / 10 := by omega
  have q4 : h / 10 ≤ 100 := by omega
  have hrg := rangeM (((w.alloc (.cells #[.int .i64 0, .int .i64 h] 23)).alloc (.cells #[.int .i64 0, .int .i64 h] 23)).alloc (.map namedEs 3)) (w.heap.size + 1 + 1) (by have := alloc_at ((w.alloc (.cells #[.int .i64 0, .int .i64 h] 23)).alloc (.cells #[.int .i64 0, .int .i64 h] 23)) (.map namedEs 3); simpa using this)
  go_enter Tryd.func6, Tryd.ntmps6
  go_wp2_with (first | (go_at_call 17; ((with_reducible refine (namedGases_any _).mono ?_)); rintro e w' ⟨rfl, rfl⟩) | (go_at_call 10; ((with_reducible refine (CheckGas_any _ _ _).mono ?_)); rintro e w' ⟨rfl, rfl⟩))
  go_loopw [14] (fun _ wr => ∃ seen, wr.heap[w.heap.size + 1 + 1 + 1]? = some (.mapIter (some (w.heap.size + 1 + 1)) 3 seen 3) ∧ wr.heap[w.heap.size + 1 + 1]? = some (.map namedEs 3) ∧ Below w.heap.size w wr ∧ w.heap.size + 4 ≤ wr.heap.size ∧ wr.cell? ⟨w.heap.size, 0, none⟩ = some (.int .i64 0) ∧ wr.cell? ⟨w.heap.size, 1, none⟩ = some (.int .i64 h)) (fun _ wr => leftN wr (w.heap.size + 1 + 1 + 1))
  case atStart =>
    refine ⟨#[], ?_, ?_, (by (repeat (first | (with_reducible refine Below.drew ?_) | (with_reducible refine below_drewN ?_ _) | (with_reducible refine Below.alloc ?_ (by first | omega | (simp; done) | (simp; omega) | (simp at *; omega)) _) | (with_reducible refine Below.setCell ?_ (by first | omega | (simp; done) | (simp; omega) | (simp at *; omega)) _) | (with_reducible exact Below.refl _ _) | (with_reducible assumption) | (with_reducible refine Below.trans ?_ (Below.mono (by assumption) (by first | omega | (simp; done) | (simp; omega) | (simp at *; omega))))))), by simp, by simp [go_sem, World.cell?_alloc_past], by simp [go_sem, World.cell?_alloc_past]⟩
    · have := alloc_at (((w.alloc (.cells #[.int .i64 0, .int .i64 h] 23)).alloc (.cells #[.int .i64 0, .int .i64 h] 23)).alloc (.map namedEs 3)) (.mapIter (some (w.heap.size + 1 + 1)) 3 #[] 3)
      simpa using this
    · have := alloc_at ((w.alloc (.cells #[.int .i64 0, .int .i64 h] 23)).alloc (.cells #[.int .i64 0, .int .i64 h] 23)) (.map namedEs 3)
      rw [Below.heap_alloc _ _ _ (by simp)]
      simpa using this
  case round =>
    obtain ⟨seen, hr', hm, hB, hsz, b0, b1⟩ := hrel
    rcases run_next_at (P := Tryd.prog) wr 0 (w.heap.size + 1 + 1 + 1) (w.heap.size + 1 + 1) 3 3 seen namedEs 3 hr' hm namedOld (Nat.le_refl _) with ⟨hh0, hrun⟩ | ⟨e, he, w1, hw1, hrun⟩
    · clear hr' hm
      have sw : w.heap.size < wr.heap.size := by omega
      go_wp2
      go_region_held3 (fun w' => w'.cell? ⟨w.heap.size, 0, none⟩ = some (.int .i64 0) ∧ w'.cell? ⟨w.heap.size, 1, none⟩ = some (.int .i64 h)) (simp [go_sem, World.cell?_alloc_past, *]) (first | (go_at_call 18; (with_reducible refine (itoa_is 0 dO _ (by omega) (by omega) (HT.out.below (by (repeat (first | (with_reducible refine Below.drew ?_) | (with_reducible refine below_drewN ?_ _) | (with_reducible refine Below.alloc ?_ (by first | omega | (simp; done) | (simp; omega) | (simp at *; omega)) _) | (with_reducible refine Below.setCell ?_ (by first | omega | (simp; done) | (simp; omega) | (simp at *; omega)) _) | (with_reducible exact Below.refl _ _) | (with_reducible assumption) | (with_reducible refine Below.trans ?_ (Below.mono (by assumption) (by first | omega | (simp; done) | (simp; omega) | (simp at *; omega)))))))) hdO).mono ?_); rintro e wN ⟨rfl, hbwN⟩; have zN := hbwN.size; (try simp at zN); have y0 : wN.cell? ⟨w.heap.size, 0, none⟩ = some (.int .i64 0) := (by rw [(bcell hbwN).1 _ _ (by first | (simp; done) | (simp; omega) | omega)]; simp [go_sem, World.cell?_alloc_past, *]); have y1 : wN.cell? ⟨w.heap.size, 1, none⟩ = some (.int .i64 h) := (by rw [(bcell hbwN).1 _ _ (by first | (simp; done) | (simp; omega) | omega)]; simp [go_sem, World.cell?_alloc_past, *]); have hBN : Below w.heap.size w wN := (by (repeat (first | (with_reducible refine Below.drew ?_) | (with_reducible refine below_drewN ?_ _) | (with_reducible refine Below.alloc ?_ (by first | omega | (simp; done) | (simp; omega) | (simp at *; omega)) _) | (with_reducible refine Below.setCell ?_ (by first | omega | (simp; done) | (simp; omega) | (simp at *; omega)) _) | (with_reducible exact Below.refl _ _) | (with_reducible assumption) | (with_reducible refine Below.trans ?_ (Below.mono (by assumption) (by first | omega | (simp; done) | (simp; omega) | (simp at *; omega))))))); have uN : w.heap.size < wN.heap.size := (by omega)) | (go_at_call 18; (with_reducible refine (itoa_is (h / 10) dH _ (by omega) (by omega) (HT.out.below (by (repeat (first | (with_reducible refine Below.drew ?_) | (with_reducible refine below_drewN ?_ _) | (with_reducible refine Below.alloc ?_ (by first | omega | (simp; done) | (simp; omega) | (simp at *; omega)) _) | (with_reducible refine Below.setCell ?_ (by first | omega | (simp; done) | (simp; omega) | (simp at *; omega)) _) | (with_reducible exact Below.refl _ _) | (with_reducible assumption) | (with_reducible refine Below.trans ?_ (Below.mono (by assumption) (by first | omega | (simp; done) | (simp; omega) | (simp at *; omega)))))))) hdH).mono ?_); rintro e wN ⟨rfl, hbwN⟩; have zN := hbwN.size; (try simp at zN); have y0 : wN.cell? ⟨w.heap.size, 0, none⟩ = some (.int .i64 0) := (by rw [(bcell hbwN).1 _ _ (by first | (simp; done) | (simp; omega) | omega)]; simp [go_sem, World.cell?_alloc_past, *]); have y1 : wN.cell? ⟨w.heap.size, 1, none⟩ = some (.int .i64 h) := (by rw [(bcell hbwN).1 _ _ (by first | (simp; done) | (simp; omega) | omega)]; simp [go_sem, World.cell?_alloc_past, *]); have hBN : Below w.heap.size w wN := (by (repeat (first | (with_reducible refine Below.drew ?_) | (with_reducible refine below_drewN ?_ _) | (with_reducible refine Below.alloc ?_ (by first | omega | (simp; done) | (simp; omega) | (simp at *; omega)) _) | (with_reducible refine Below.setCell ?_ (by first | omega | (simp; done) | (simp; omega) | (simp at *; omega)) _) | (with_reducible exact Below.refl _ _) | (with_reducible assumption) | (with_reducible refine Below.trans ?_ (Below.mono (by assumption) (by first | omega | (simp; done) | (simp; omega) | (simp at *; omega))))))); have uN : w.heap.size < wN.heap.size := (by omega)))
      go_wp2
      go_ret2
      exact ⟨by first | rfl | (simp; done) | (simp [bapp]; done), (by (repeat (first | (with_reducible refine Below.drew ?_) | (with_reducible refine below_drewN ?_ _) | (with_reducible refine Below.alloc ?_ (by first | omega | (simp; done) | (simp; omega) | (simp at *; omega)) _) | (with_reducible refine Below.setCell ?_ (by first | omega | (simp; done) | (simp; omega) | (simp at *; omega)) _) | (with_reducible exact Below.refl _ _) | (with_reducible assumption) | (with_reducible refine Below.trans ?_ (Below.mono (by assumption) (by first | omega | (simp; done) | (simp; omega) | (simp at *; omega)))))))⟩
    · obtain ⟨hmem, _⟩ := mem_left he
      obtain ⟨f1, f2, f3, f4⟩ := stepF (.mapIter (some (w.heap.size + 1 + 1)) 3 (seen.push e.born) 3) hw1 (show w.heap.size + 1 + 1 + 1 < wr.heap.size by omega)
      have hsh := left_shrinks namedEs seen e he
      have hl0 := leftN_eq hr'
      generalize setBlock w1 (w.heap.size + 1 + 1 + 1) (.mapIter (some (w.heap.size + 1 + 1)) 3 (seen.push e.born) 3) = w2 at *
      have hm2 : w2.heap[w.heap.size + 1 + 1]? = some (.map namedEs 3) := by rw [f2 _ (by omega)]; exact hm
      have hen := run_entry_at (P := Tryd.prog) w2 (w.heap.size + 1 + 1 + 1) (w.heap.size + 1 + 1) 3 seen namedEs 3 e f1 hm2 hmem namedNodup
      have c0 : w2.cell? ⟨w.heap.size, 0, none⟩ = some (.int .i64 0) := by rw [(f4 (w.heap.size + 1) (by omega)).cell (p := ⟨w.heap.size, 0, none⟩) (by simp)]; exact b0
      have c1 : w2.cell? ⟨w.heap.size, 1, none⟩ = some (.int .i64 h) := by rw [(f4 (w.heap.size + 1) (by omega)).cell (p := ⟨w.heap.size, 1, none⟩) (by simp)]; exact b1
      have hB2 : Below w.heap.size w w2 := hB.trans (f4 _ (by omega))
      have nn1 : w2.heap.size ≠ w.heap.size := by omega
      have nn2 : w.heap.size < w2.heap.size := by omega
      have HF := Lib.hid f1
      have HM := Lib.hid hm2
      have HS := Lib.hid f3
      have HL := Lib.hid hl0
      have HH := Lib.hid hsh
      clear f1 f2 f3 f4 hm2 hr' hm hw1 b0 b1 hl0 hsh he
      rcases namedMem hmem with rfl | rfl | rfl
      · have hk : eAir.key = .string nAir := rfl
        have hv : eAir.val = .agg #[.int .i64 210, .int .i64 0] := rfl
        rw [hk, hv] at hrun hen
        clear hmem hk hv
        go_wp2
        go_roundw
        case rel =>
          have hs := HS.out
          refine ⟨_, alloc_keep HF.out (by omega), alloc_keep HM.out (by omega), ?_, ?_, ?_, ?_⟩
          · (repeat (first | (with_reducible refine Below.drew ?_) | (with_reducible refine below_drewN ?_ _) | (with_reducible refine Below.alloc ?_ (by first | omega | (simp; done) | (simp; omega) | (simp at *; omega)) _) | (with_reducible refine Below.setCell ?_ (by first | omega | (simp; done) | (simp; omega) | (simp at *; omega)) _) | (with_reducible exact Below.refl _ _) | (with_reducible assumption) | (with_reducible refine Below.trans ?_ (Below.mono (by assumption) (by first | omega | (simp; done) | (simp; omega) | (simp at *; omega))))))
          · simp; omega
          · exact (((Below.refl w2.heap.size w2).alloc (Nat.le_refl _) _).cell (p := ⟨w.heap.size, 0, none⟩) nn2).trans c0
          · exact (((Below.refl w2.heap.size w2).alloc (Nat.le_refl _) _).cell (p := ⟨w.heap.size, 1, none⟩) nn2).trans c1
        case measure =>
          have hs := HS.out
          rw [leftN_eq (alloc_keep HF.out (by omega)), HL.out]
          exact HH.out
      · have hk : eOxy.key = .string nOxy := rfl
        have hv : eOxy.val = .agg #[.int .i64 1000, .int .i64 0] := rfl
        rw [hk, hv] at hrun hen
        clear hmem hk hv
        go_wp2
        go_roundw
        case rel =>
          have hs := HS.out
          refine ⟨_, alloc_keep HF.out (by omega), alloc_keep HM.out (by omega), ?_, ?_, ?_, ?_⟩
          · (repeat (first | (with_reducible refine Below.drew ?_) | (with_reducible refine below_drewN ?_ _) | (with_reducible refine Below.alloc ?_ (by first | omega | (simp; done) | (simp; omega) | (simp at *; omega)) _) | (with_reducible refine Below.setCell ?_ (by first | omega | (simp; done) | (simp; omega) | (simp at *; omega)) _) | (with_reducible exact Below.refl _ _) | (with_reducible assumption) | (with_reducible refine Below.trans ?_ (Below.mono (by assumption) (by first | omega | (simp; done) | (simp; omega) | (simp at *; omega))))))
          · simp; omega
          · exact (((Below.refl w2.heap.size w2).alloc (Nat.le_refl _) _).cell (p := ⟨w.heap.size, 0, none⟩) nn2).trans c0
          · exact (((Below.refl w2.heap.size w2).alloc (Nat.le_refl _) _).cell (p := ⟨w.heap.size, 1, none⟩) nn2).trans c1
        case measure =>
          have hs := HS.out
          rw [leftN_eq (alloc_keep HF.out (by omega)), HL.out]
          exact HH.out
      · have hk : eHel.key = .string nHel := rfl
        have hv : eHel.val = .agg #[.int .i64 0, .int .i64 1000] := rfl
        rw [hk, hv] at hrun hen
        clear hmem hk hv
        go_wp2
        go_roundw
        case rel =>
          have hs := HS.out
          refine ⟨_, alloc_keep HF.out (by omega), alloc_keep HM.out (by omega), ?_, ?_, ?_, ?_⟩
          · (repeat (first | (with_reducible refine Below.drew ?_) | (with_reducible refine below_drewN ?_ _) | (with_reducible refine Below.alloc ?_ (by first | omega | (simp; done) | (simp; omega) | (simp at *; omega)) _) | (with_reducible refine Below.setCell ?_ (by first | omega | (simp; done) | (simp; omega) | (simp at *; omega)) _) | (with_reducible exact Below.refl _ _) | (with_reducible assumption) | (with_reducible refine Below.trans ?_ (Below.mono (by assumption) (by first | omega | (simp; done) | (simp; omega) | (simp at *; omega))))))
          · simp; omega
          · exact (((Below.refl w2.heap.size w2).alloc (Nat.le_refl _) _).cell (p := ⟨w.heap.size, 0, none⟩) nn2).trans c0
          · exact (((Below.refl w2.heap.size w2).alloc (Nat.le_refl _) _).cell (p := ⟨w.heap.size, 1, none⟩) nn2).trans c1
        case measure =>
          have hs := HS.out
          rw [leftN_eq (alloc_keep HF.out (by omega)), HL.out]
          exact HH.out
theorem left_pos {seen : Array Nat} {e : MapEntry} (he : e ∈ namedEs.toList) (hn : seen.contains e.born = false) : (leftOf namedEs seen).size ≠ 0 := by
  intro h
  have h1 : e ∈ leftOf namedEs seen := by
    unfold leftOf
    rw [Array.mem_filter]
    exact ⟨by simpa using he, by rw [hn]; rfl⟩
  rw [Array.eq_empty_of_size_eq_zero h] at h1
  simp at h1
set_option maxRecDepth 100000 in
set_option maxHeartbeats 2000000 in
theorem Format_eAir (w : World) :
    Calls Tryd.prog 6 #[.agg #[.int .i64 210, .int .i64 0]] w fun e w' => e = .returned (.tuple #[.string ⟨([97, 105, 114] : List UInt8).toArray⟩, .int .i64 0]) ∧ Below w.heap.size w w' := by
  have hg : gasE 210 0 = 0 := by decide
  have hrg := rangeM (((w.alloc (.cells #[.int .i64 210, .int .i64 0] 23)).alloc (.cells #[.int .i64 210, .int .i64 0] 23)).alloc (.map namedEs 3)) (w.heap.size + 1 + 1) (by have := alloc_at ((w.alloc (.cells #[.int .i64 210, .int .i64 0] 23)).alloc (.cells #[.int .i64 210, .int .i64 0] 23)) (.map namedEs 3); simpa using this)
  go_enter Tryd.func6, Tryd.ntmps6
  go_wp2_with (first | (go_at_call 17; ((with_reducible refine (namedGases_any _).mono ?_)); rintro e w' ⟨rfl, rfl⟩) | (go_at_call 10; ((with_reducible refine (CheckGas_any _ _ _).mono ?_)); rintro e w' ⟨rfl, rfl⟩))
  go_loopw [14] (fun _ wr => ∃ seen : Array Nat, Hid (seen.contains 0 = false) ∧ wr.heap[w.heap.size + 1 + 1 + 1]? = some (.mapIter (some (w.heap.size + 1 + 1)) 3 seen 3) ∧ wr.heap[w.heap.size + 1 + 1]? = some (.map namedEs 3) ∧ Below w.heap.size w wr ∧ w.heap.size + 4 ≤ wr.heap.size ∧ wr.cell? ⟨w.heap.size, 0, none⟩ = some (.int .i64 210) ∧ wr.cell? ⟨w.heap.size, 1, none⟩ = some (.int .i64 0)) (fun _ wr => leftN wr (w.heap.size + 1 + 1 + 1))
  case atStart =>
    refine ⟨#[], (by show _ = _; simp), ?_, ?_, (by (repeat (first | (with_reducible refine Below.drew ?_) | (with_reducible refine below_drewN ?_ _) | (with_reducible refine Below.alloc ?_ (by first | omega | (simp; done) | (simp; omega) | (simp at *; omega)) _) | (with_reducible refine Below.setCell ?_ (by first | omega | (simp; done) | (simp; omega) | (simp at *; omega)) _) | (with_reducible exact Below.refl _ _) | (with_reducible assumption) | (with_reducible refine Below.trans ?_ (Below.mono (by assumption) (by first | omega | (simp; done) | (simp; omega) | (simp at *; omega))))))), by simp, by simp [go_sem, World.cell?_alloc_past], by simp [go_sem, World.cell?_alloc_past]⟩
    · have := alloc_at (((w.alloc (.cells #[.int .i64 210, .int .i64 0] 23)).alloc (.cells #[.int .i64 210, .int .i64 0] 23)).alloc (.map namedEs 3)) (.mapIter (some (w.heap.size + 1 + 1)) 3 #[] 3)
      simpa using this
    · have := alloc_at ((w.alloc (.cells #[.int .i64 210, .int .i64 0] 23)).alloc (.cells #[.int .i64 210, .int .i64 0] 23)) (.map namedEs 3)
      rw [Below.heap_alloc _ _ _ (by simp)]
      simpa using this
  case round =>
    obtain ⟨seen, hns, hr', hm, hB, hsz, b0, b1⟩ := hrel
    rcases run_next_at (P := Tryd.prog) wr 0 (w.heap.size + 1 + 1 + 1) (w.heap.size + 1 + 1) 3 3 seen namedEs 3 hr' hm namedOld (Nat.le_refl _) with ⟨hh0, hrun⟩ | ⟨e, he, w1, hw1, hrun⟩
    · exact absurd hh0 (left_pos (e := eAir) (by simp [namedEs]) hns.out)
    · obtain ⟨hmem, _⟩ := mem_left he
      obtain ⟨f1, f2, f3, f4⟩ := stepF (.mapIter (some (w.heap.size + 1 + 1)) 3 (seen.push e.born) 3) hw1 (show w.heap.size + 1 + 1 + 1 < wr.heap.size by omega)
      have hsh := left_shrinks namedEs seen e he
      have hl0 := leftN_eq hr'
      generalize setBlock w1 (w.heap.size + 1 + 1 + 1) (.mapIter (some (w.heap.size + 1 + 1)) 3 (seen.push e.born) 3) = w2 at *
      have hm2 : w2.heap[w.heap.size + 1 + 1]? = some (.map namedEs 3) := by rw [f2 _ (by omega)]; exact hm
      have hen := run_entry_at (P := Tryd.prog) w2 (w.heap.size + 1 + 1 + 1) (w.heap.size + 1 + 1) 3 seen namedEs 3 e f1 hm2 hmem namedNodup
      have c0 : w2.cell? ⟨w.heap.size, 0, none⟩ = some (.int .i64 210) := by rw [(f4 (w.heap.size + 1) (by omega)).cell (p := ⟨w.heap.size, 0, none⟩) (by simp)]; exact b0
      have c1 : w2.cell? ⟨w.heap.size, 1, none⟩ = some (.int .i64 0) := by rw [(f4 (w.heap.size + 1) (by omega)).cell (p := ⟨w.heap.size, 1, none⟩) (by simp)]; exact b1
      have hB2 : Below w.heap.size w w2 := hB.trans (f4 _ (by omega))
      have nn1 : w2.heap.size ≠ w.heap.size := by omega
      have nn2 : w.heap.size < w2.heap.size := by omega
      have HF := Lib.hid f1
      have HM := Lib.hid hm2
      have HS := Lib.hid f3
      have HL := Lib.hid hl0
      have HH := Lib.hid hsh
      clear f1 f2 f3 f4 hm2 hr' hm hw1 b0 b1 hl0 hsh he
      rcases namedMem hmem with rfl | rfl | rfl
      · have hk : eAir.key = .string nAir := rfl
        have hv : eAir.val = .agg #[.int .i64 210, .int .i64 0] := rfl
        rw [hk, hv] at hrun hen
        clear hmem hk hv
        go_wp2
        go_ret2
        exact ⟨by rfl, (by (repeat (first | (with_reducible refine Below.drew ?_) | (with_reducible refine below_drewN ?_ _) | (with_reducible refine Below.alloc ?_ (by first | omega | (simp; done) | (simp; omega) | (simp at *; omega)) _) | (with_reducible refine Below.setCell ?_ (by first | omega | (simp; done) | (simp; omega) | (simp at *; omega)) _) | (with_reducible exact Below.refl _ _) | (with_reducible assumption) | (with_reducible refine Below.trans ?_ (Below.mono (by assumption) (by first | omega | (simp; done) | (simp; omega) | (simp at *; omega)))))))⟩
      · have hk : eOxy.key = .string nOxy := rfl
        have hv : eOxy.val = .agg #[.int .i64 1000, .int .i64 0] := rfl
        rw [hk, hv] at hrun hen
        clear hmem hk hv
        go_wp2
        go_roundw
        case rel =>
          have hs := HS.out
          refine ⟨_, ?_, alloc_keep HF.out (by omega), alloc_keep HM.out (by omega), ?_, ?_, ?_, ?_⟩
          · have hx := hns.out
            show Array.contains _ _ = false
            simp at hx ⊢
            exact ⟨hx, by decide⟩
          · (repeat (first | (with_reducible refine Below.drew ?_) | (with_reducible refine below_drewN ?_ _) | (with_reducible refine Below.alloc ?_ (by first | omega | (simp; done) | (simp; omega) | (simp at *; omega)) _) | (with_reducible refine Below.setCell ?_ (by first | omega | (simp; done) | (simp; omega) | (simp at *; omega)) _) | (with_reducible exact Below.refl _ _) | (with_reducible assumption) | (with_reducible refine Below.trans ?_ (Below.mono (by assumption) (by first | omega | (simp; done) | (simp; omega) | (simp at *; omega))))))
          · simp; omega
          · exact (((Below.refl w2.heap.size w2).alloc (Nat.le_refl _) _).cell (p := ⟨w.heap.size, 0, none⟩) nn2).trans c0
          · exact (((Below.refl w2.heap.size w2).alloc (Nat.le_refl _) _).cell (p := ⟨w.heap.size, 1, none⟩) nn2).trans c1
        case measure =>
          have hs := HS.out
          rw [leftN_eq (alloc_keep HF.out (by omega)), HL.out]
          exact HH.out
      · have hk : eHel.key = .string nHel := rfl
        have hv : eHel.val = .agg #[.int .i64 0, .int .i64 1000] := rfl
        rw [hk, hv] at hrun hen
        clear hmem hk hv
        go_wp2
        go_roundw
        case rel =>
          have hs := HS.out
          refine ⟨_, ?_, alloc_keep HF.out (by omega), alloc_keep HM.out (by omega), ?_, ?_, ?_, ?_⟩
          · have hx := hns.out
            show Array.contains _ _ = false
            simp at hx ⊢
            exact ⟨hx, by decide⟩
          · (repeat (first | (with_reducible refine Below.drew ?_) | (with_reducible refine below_drewN ?_ _) | (with_reducible refine Below.alloc ?_ (by first | omega | (simp; done) | (simp; omega) | (simp at *; omega)) _) | (with_reducible refine Below.setCell ?_ (by first | omega | (simp; done) | (simp; omega) | (simp at *; omega)) _) | (with_reducible exact Below.refl _ _) | (with_reducible assumption) | (with_reducible refine Below.trans ?_ (Below.mono (by assumption) (by first | omega | (simp; done) | (simp; omega) | (simp at *; omega))))))
          · simp; omega
          · exact (((Below.refl w2.heap.size w2).alloc (Nat.le_refl _) _).cell (p := ⟨w.heap.size, 0, none⟩) nn2).trans c0
          · exact (((Below.refl w2.heap.size w2).alloc (Nat.le_refl _) _).cell (p := ⟨w.heap.size, 1, none⟩) nn2).trans c1
        case measure =>
          have hs := HS.out
          rw [leftN_eq (alloc_keep HF.out (by omega)), HL.out]
          exact HH.out
set_option maxRecDepth 100000 in
set_option maxHeartbeats 2000000 in
theorem Format_eOxy (w : World) :
    Calls Tryd.prog 6 #[.agg #[.int .i64 1000, .int .i64 0]] w fun e w' => e = .returned (.tuple #[.string ⟨([111, 120, 121, 103, 101, 110] : List UInt8).toArray⟩, .int .i64 0]) ∧ Below w.heap.size w w' := by
  have hg : gasE 1000 0 = 0 := by decide
  have hrg := rangeM (((w.alloc (.cells #[.int .i64 1000, .int .i64 0] 23)).alloc (.cells #[.int .i64 1000, .int .i64 0] 23)).alloc (.map namedEs 3)) (w.heap.size + 1 + 1) (by have := alloc_at ((w.alloc (.cells #[.int .i64 1000, .int .i64 0] 23)).alloc (.cells #[.int .i64 1000, .int .i64 0] 23)) (.map namedEs 3); simpa using this)
  go_enter Tryd.func6, Tryd.ntmps6
  go_wp2_with (first | (go_at_call 17; ((with_reducible refine (namedGases_any _).mono ?_)); rintro e w' ⟨rfl, rfl⟩) | (go_at_call 10; ((with_reducible refine (CheckGas_any _ _ _).mono ?_)); rintro e w' ⟨rfl, rfl⟩))
  go_loopw [14] (fun _ wr => ∃ seen : Array Nat, Hid (seen.contains 1 = false) ∧ wr.heap[w.heap.size + 1 + 1 + 1]? = some (.mapIter (some (w.heap.size + 1 + 1)) 3 seen 3) ∧ wr.heap[w.heap.size + 1 + 1]? = some (.map namedEs 3) ∧ Below w.heap.size w wr ∧ w.heap.size + 4 ≤ wr.heap.size ∧ wr.cell? ⟨w.heap.size, 0, none⟩ = some (.int .i64 1000) ∧ wr.cell? ⟨w.heap.size, 1, none⟩ = some (.int .i64 0)) (fun _ wr => leftN wr (w.heap.size + 1 + 1 + 1))
  case atStart =>
    refine ⟨#[], (by show _ = _; simp), ?_, ?_, (by (repeat (first | (with_reducible refine Below.drew ?_) | (with_reducible refine below_drewN ?_ _) | (with_reducible refine Below.alloc ?_ (by first | omega | (simp; done) | (simp; omega) | (simp at *; omega)) _) | (with_reducible refine Below.setCell ?_ (by first | omega | (simp; done) | (simp; omega) | (simp at *; omega)) _) | (with_reducible exact Below.refl _ _) | (with_reducible assumption) | (with_reducible refine Below.trans ?_ (Below.mono (by assumption) (by first | omega | (simp; done) | (simp; omega) | (simp at *; omega))))))), by simp, by simp [go_sem, World.cell?_alloc_past], by simp [go_sem, World.cell?_alloc_past]⟩
    · have := alloc_at (((w.alloc (.cells #[.int .i64 1000, .int .i64 0] 23)).alloc (.cells #[.int .i64 1000, .int .i64 0] 23)).alloc (.map namedEs 3)) (.mapIter (some (w.heap.size + 1 + 1)) 3 #[] 3)
      simpa using this
    · have := alloc_at ((w.alloc (.cells #[.int .i64 1000, .int .i64 0] 23)).alloc (.cells #[.int .i64 1000, .int .i64 0] 23)) (.map namedEs 3)
      rw [Below.heap_alloc _ _ _ (by simp)]
      simpa using this
  case round =>
    obtain ⟨seen, hns, hr', hm, hB, hsz, b0, b1⟩ := hrel
    rcases run_next_at (P := Tryd.prog) wr 0 (w.heap.size + 1 + 1 + 1) (w.heap.size + 1 + 1) 3 3 seen namedEs 3 hr' hm namedOld (Nat.le_refl _) with ⟨hh0, hrun⟩ | ⟨e, he, w1, hw1, hrun⟩
    · exact absurd hh0 (left_pos (e := eOxy) (by simp [namedEs]) hns.out)
    · obtain ⟨hmem, _⟩ := mem_left he
      obtain ⟨f1, f2, f3, f4⟩ := stepF (.mapIter (some (w.heap.size + 1 + 1)) 3 (seen.push e.born) 3) hw1 (show w.heap.size + 1 + 1 + 1 < wr.heap.size by omega)
      have hsh := left_shrinks namedEs seen e he
      have hl0 := leftN_eq hr'
      generalize setBlock w1 (w.heap.size + 1 + 1 + 1) (.mapIter (some (w.heap.size + 1 + 1)) 3 (seen.push e.born) 3) = w2 at *
      have hm2 : w2.heap[w.heap.size + 1 + 1]? = some (.map namedEs 3) := by rw [f2 _ (by omega)]; exact hm
      have hen := run_entry_at (P := Tryd.prog) w2 (w.heap.size + 1 + 1 + 1) (w.heap.size + 1 + 1) 3 seen namedEs 3 e f1 hm2 hmem namedNodup
      have c0 : w2.cell? ⟨w.heap.size, 0, none⟩ = some (.int .i64 1000) := by rw [(f4 (w.heap.size + 1) (by omega)).cell (p := ⟨w.heap.size, 0, none⟩) (by simp)]; exact b0
      have c1 : w2.cell? ⟨w.heap.size, 1, none⟩ = some (.int .i64 0) := by rw [(f4 (w.heap.size + 1) (by omega)).cell (p := ⟨w.heap.size, 1, none⟩) (by simp)]; exact b1
      have hB2 : Below w.heap.size w w2 := hB.trans (f4 _ (by omega))
      have nn1 : w2.heap.size ≠ w.heap.size := by omega
      have nn2 : w.heap.size < w2.heap.size := by omega
      have HF := Lib.hid f1
      have HM := Lib.hid hm2
      have HS := Lib.hid f3
      have HL := Lib.hid hl0
      have HH := Lib.hid hsh
      clear f1 f2 f3 f4 hm2 hr' hm hw1 b0 b1 hl0 hsh he
      rcases namedMem hmem with rfl | rfl | rfl
      · have hk : eAir.key = .string nAir := rfl
        have hv : eAir.val = .agg #[.int .i64 210, .int .i64 0] := rfl
        rw [hk, hv] at hrun hen
        clear hmem hk hv
        go_wp2
        go_roundw
        case rel =>
          have hs := HS.out
          refine ⟨_, ?_, alloc_keep HF.out (by omega), alloc_keep HM.out (by omega), ?_, ?_, ?_, ?_⟩
          · have hx := hns.out
            show Array.contains _ _ = false
            simp at hx ⊢
            exact ⟨hx, by decide⟩
          · (repeat (first | (with_reducible refine Below.drew ?_) | (with_reducible refine below_drewN ?_ _) | (with_reducible refine Below.alloc ?_ (by first | omega | (simp; done) | (simp; omega) | (simp at *; omega)) _) | (with_reducible refine Below.setCell ?_ (by first | omega | (simp; done) | (simp; omega) | (simp at *; omega)) _) | (with_reducible exact Below.refl _ _) | (with_reducible assumption) | (with_reducible refine Below.trans ?_ (Below.mono (by assumption) (by first | omega | (simp; done) | (simp; omega) | (simp at *; omega))))))
          · simp; omega
          · exact (((Below.refl w2.heap.size w2).alloc (Nat.le_refl _) _).cell (p := ⟨w.heap.size, 0, none⟩) nn2).trans c0
          · exact (((Below.refl w2.heap.size w2).alloc (Nat.le_refl _) _).cell (p := ⟨w.heap.size, 1, none⟩) nn2).trans c1
        case measure =>
          have hs := HS.out
          rw [leftN_eq (alloc_keep HF.out (by omega)), HL.out]
          exact HH.out
      · have hk : eOxy.key = .string nOxy := rfl
        have hv : eOxy.val = .agg #[.int .i64 1000, .int .i64 0] := rfl
        rw [hk, hv] at hrun hen
        clear hmem hk hv
        go_wp2
        go_ret2
        exact ⟨by rfl, (by (repeat (first | (with_reducible refine Below.drew ?_) | (with_reducible refine below_drewN ?_ _) | (with_reducible refine Below.alloc ?_ (by first | omega | (simp; done) | (simp; omega) | (simp at *; omega)) _) | (with_reducible refine Below.setCell ?_ (by first | omega | (simp; done) | (simp; omega) | (simp at *; omega)) _) | (with_reducible exact Below.refl _ _) | (with_reducible assumption) | (with_reducible refine Below.trans ?_ (Below.mono (by assumption) (by first | omega | (simp; done) | (simp; omega) | (simp at *; omega)))))))⟩
      · have hk : eHel.key = .string nHel := rfl
        have hv : eHel.val = .agg #[.int .i64 0, .int .i64 1000] := rfl
        rw [hk, hv] at hrun hen
        clear hmem hk hv
        go_wp2
        go_roundw
        case rel =>
          have hs := HS.out
          refine ⟨_, ?_, alloc_keep HF.out (by omega), alloc_keep HM.out (by omega), ?_, ?_, ?_, ?_⟩
          · have hx := hns.out
            show Array.contains _ _ = false
            simp at hx ⊢
            exact ⟨hx, by decide⟩
          · (repeat (first | (with_reducible refine Below.drew ?_) | (with_reducible refine below_drewN ?_ _) | (with_reducible refine Below.alloc ?_ (by first | omega | (simp; done) | (simp; omega) | (simp at *; omega)) _) | (with_reducible refine Below.setCell ?_ (by first | omega | (simp; done) | (simp; omega) | (simp at *; omega)) _) | (with_reducible exact Below.refl _ _) | (with_reducible assumption) | (with_reducible refine Below.trans ?_ (Below.mono (by assumption) (by first | omega | (simp; done) | (simp; omega) | (simp at *; omega))))))
          · simp; omega
          · exact (((Below.refl w2.heap.size w2).alloc (Nat.le_refl _) _).cell (p := ⟨w.heap.size, 0, none⟩) nn2).trans c0
          · exact (((Below.refl w2.heap.size w2).alloc (Nat.le_refl _) _).cell (p := ⟨w.heap.size, 1, none⟩) nn2).trans c1
        case measure =>
          have hs := HS.out
          rw [leftN_eq (alloc_keep HF.out (by omega)), HL.out]
          exact HH.out
set_option maxRecDepth 100000 in
set_option maxHeartbeats 2000000 in
theorem Format_eHel (w : World) :
    Calls Tryd.prog 6 #[.agg #[.int .i64 0, .int .i64 1000]] w fun e w' => e = .returned (.tuple #[.string ⟨([104, 101, 108, 105, 117, 109] : List UInt8).toArray⟩, .int .i64 0]) ∧ Below w.heap.size w w' := by
  have hg : gasE 0 1000 = 0 := by decide
  have hrg := rangeM (((w.alloc (.cells #[.int .i64 0, .int .i64 1000] 23)).alloc (.cells #[.int .i64 0, .int .i64 1000] 23)).alloc (.map namedEs 3)) (w.heap.size + 1 + 1) (by have := alloc_at ((w.alloc (.cells #[.int .i64 0, .int .i64 1000] 23)).alloc (.cells #[.int .i64 0, .int .i64 1000] 23)) (.map namedEs 3); simpa using this)
  go_enter Tryd.func6, Tryd.ntmps6
  go_wp2_with (first | (go_at_call 17; ((with_reducible refine (namedGases_any _).mono ?_)); rintro e w' ⟨rfl, rfl⟩) | (go_at_call 10; ((with_reducible refine (CheckGas_any _ _ _).mono ?_)); rintro e w' ⟨rfl, rfl⟩))
  go_loopw [14] (fun _ wr => ∃ seen : Array Nat, Hid (seen.contains 2 = false) ∧ wr.heap[w.heap.size + 1 + 1 + 1]? = some (.mapIter (some (w.heap.size + 1 + 1)) 3 seen 3) ∧ wr.heap[w.heap.size + 1 + 1]? = some (.map namedEs 3) ∧ Below w.heap.size w wr ∧ w.heap.size + 4 ≤ wr.heap.size ∧ wr.cell? ⟨w.heap.size, 0, none⟩ = some (.int .i64 0) ∧ wr.cell? ⟨w.heap.size, 1, none⟩ = some (.int .i64 1000)) (fun _ wr => leftN wr (w.heap.size + 1 + 1 + 1))
  case atStart =>
    refine ⟨#[], (by show _ = _; simp), ?_, ?_, (by (repeat (first | (with_reducible refine Below.drew ?_) | (with_reducible refine below_drewN ?_ _) | (with_reducible refine Below.alloc ?_ (by first | omega | (simp; done) | (simp; omega) | (simp at *; omega)) _) | (with_reducible refine Below.setCell ?_ (by first | omega | (simp; done) | (simp; omega) | (simp at *; omega)) _) | (with_reducible exact Below.refl _ _) | (with_reducible assumption) | (with_reducible refine Below.trans ?_ (Below.mono (by assumption) (by first | omega | (simp; done) | (simp; omega) | (simp at *; omega))))))), by simp, by simp [go_sem, World.cell?_alloc_past], by simp [go_sem, World.cell?_alloc_past]⟩
    · have := alloc_at (((w.alloc (.cells #[.int .i64 0, .int .i64 1000] 23)).alloc (.cells #[.int .i64 0, .int .i64 1000] 23)).alloc (.map namedEs 3)) (.mapIter (some (w.heap.size + 1 + 1)) 3 #[] 3)
      simpa using this
    · have := alloc_at ((w.alloc (.cells #[.int .i64 0, .int .i64 1000] 23)).alloc (.cells #[.int .i64 0, .int .i64 1000] 23)) (.map namedEs 3)
      rw [Below.heap_alloc _ _ _ (by simp)]
      simpa using this
  case round =>
    obtain ⟨seen, hns, hr', hm, hB, hsz, b0, b1⟩ := hrel
    rcases run_next_at (P := Tryd.prog) wr 0 (w.heap.size + 1 + 1 + 1) (w.heap.size + 1 + 1) 3 3 seen namedEs 3 hr' hm namedOld (Nat.le_refl _) with ⟨hh0, hrun⟩ | ⟨e, he, w1, hw1, hrun⟩
    · exact absurd hh0 (left_pos (e := eHel) (by simp [namedEs]) hns.out)
    · obtain ⟨hmem, _⟩ := mem_left he
      obtain ⟨f1, f2, f3, f4⟩ := stepF (.mapIter (some (w.heap.size + 1 + 1)) 3 (seen.push e.born) 3) hw1 (show w.heap.size + 1 + 1 + 1 < wr.heap.size by omega)
      have hsh := left_shrinks namedEs seen e he
      have hl0 := leftN_eq hr'
      generalize setBlock w1 (w.heap.size + 1 + 1 + 1) (.mapIter (some (w.heap.size + 1 + 1)) 3 (seen.push e.born) 3) = w2 at *
      have hm2 : w2.heap[w.heap.size + 1 + 1]? = some (.map namedEs 3) := by rw [f2 _ (by omega)]; exact hm
      have hen := run_entry_at (P := Tryd.prog) w2 (w.heap.size + 1 + 1 + 1) (w.heap.size + 1 + 1) 3 seen namedEs 3 e f1 hm2 hmem namedNodup
      have c0 : w2.cell? ⟨w.heap.size, 0, none⟩ = some (.int .i64 0) := by rw [(f4 (w.heap.size + 1) (by omega)).cell (p := ⟨w.heap.size, 0, none⟩) (by simp)]; exact b0
      have c1 : w2.cell? ⟨w.heap.size, 1, none⟩ = some (.int .i64 1000) := by rw [(f4 (w.heap.size + 1) (by omega)).cell (p := ⟨w.heap.size, 1, none⟩) (by simp)]; exact b1
      have hB2 : Below w.heap.size w w2 := hB.trans (f4 _ (by omega))
      have nn1 : w2.heap.size ≠ w.heap.size := by omega
      have nn2 : w.heap.size < w2.heap.size := by omega
      have HF := Lib.hid f1
      have HM := Lib.hid hm2
      have HS := Lib.hid f3
      have HL := Lib.hid hl0
      have HH := Lib.hid hsh
      clear f1 f2 f3 f4 hm2 hr' hm hw1 b0 b1 hl0 hsh he
      rcases namedMem hmem with rfl | rfl | rfl
      · have hk : eAir.key = .string nAir := rfl
        have hv : eAir.val = .agg #[.int .i64 210, .int .i64 0] := rfl
        rw [hk, hv] at hrun hen
        clear hmem hk hv
        go_wp2
        go_roundw
        case rel =>
          have hs := HS.out
          refine ⟨_, ?_, alloc_keep HF.out (by omega), alloc_keep HM.out (by omega), ?_, ?_, ?_, ?_⟩
          · have hx := hns.out
            show Array.contains _ _ = false
            simp at hx ⊢
            exact ⟨hx, by decide⟩
          · (repeat (first | (with_reducible refine Below.drew ?_) | (with_reducible refine below_drewN ?_ _) | (with_reducible refine Below.alloc ?_ (by first | omega | (simp; done) | (simp; omega) | (simp at *; omega)) _) | (with_reducible refine Below.setCell ?_ (by first | omega | (simp; done) | (simp; omega) | (simp at *; omega)) _) | (with_reducible exact Below.refl _ _) | (with_reducible assumption) | (with_reducible refine Below.trans ?_ (Below.mono (by assumption) (by first | omega | (simp; done) | (simp; omega) | (simp at *; omega))))))
          · simp; omega
          · exact (((Below.refl w2.heap.size w2).alloc (Nat.le_refl _) _).cell (p := ⟨w.heap.size, 0, none⟩) nn2).trans c0
          · exact (((Below.refl w2.heap.size w2).alloc (Nat.le_refl _) _).cell (p := ⟨w.heap.size, 1, none⟩) nn2).trans c1
        case measure =>
          have hs := HS.out
          rw [leftN_eq (alloc_keep HF.out (by omega)), HL.out]
          exact HH.out
      · have hk : eOxy.key = .string nOxy := rfl
        have hv : eOxy.val = .agg #[.int .i64 1000, .int .i64 0] := rfl
        rw [hk, hv] at hrun hen
        clear hmem hk hv
        go_wp2
        go_roundw
        case rel =>
          have hs := HS.out
          refine ⟨_, ?_, alloc_keep HF.out (by omega), alloc_keep HM.out (by omega), ?_, ?_, ?_, ?_⟩
          · have hx := hns.out
            show Array.contains _ _ = false
            simp at hx ⊢
            exact ⟨hx, by decide⟩
          · (repeat (first | (with_reducible refine Below.drew ?_) | (with_reducible refine below_drewN ?_ _) | (with_reducible refine Below.alloc ?_ (by first | omega | (simp; done) | (simp; omega) | (simp at *; omega)) _) | (with_reducible refine Below.setCell ?_ (by first | omega | (simp; done) | (simp; omega) | (simp at *; omega)) _) | (with_reducible exact Below.refl _ _) | (with_reducible assumption) | (with_reducible refine Below.trans ?_ (Below.mono (by assumption) (by first | omega | (simp; done) | (simp; omega) | (simp at *; omega))))))
          · simp; omega
          · exact (((Below.refl w2.heap.size w2).alloc (Nat.le_refl _) _).cell (p := ⟨w.heap.size, 0, none⟩) nn2).trans c0
          · exact (((Below.refl w2.heap.size w2).alloc (Nat.le_refl _) _).cell (p := ⟨w.heap.size, 1, none⟩) nn2).trans c1
        case measure =>
          have hs := HS.out
          rw [leftN_eq (alloc_keep HF.out (by omega)), HL.out]
          exact HH.out
      · have hk : eHel.key = .string nHel := rfl
        have hv : eHel.val = .agg #[.int .i64 0, .int .i64 1000] := rfl
        rw [hk, hv] at hrun hen
        clear hmem hk hv
        go_wp2
        go_ret2
        exact ⟨by rfl, (by (repeat (first | (with_reducible refine Below.drew ?_) | (with_reducible refine below_drewN ?_ _) | (with_reducible refine Below.alloc ?_ (by first | omega | (simp; done) | (simp; omega) | (simp at *; omega)) _) | (with_reducible refine Below.setCell ?_ (by first | omega | (simp; done) | (simp; omega) | (simp at *; omega)) _) | (with_reducible exact Below.refl _ _) | (with_reducible assumption) | (with_reducible refine Below.trans ?_ (Below.mono (by assumption) (by first | omega | (simp; done) | (simp; omega) | (simp at *; omega)))))))⟩
theorem Format_any (o h : Int) (w : World) (hg : gasE o h = 0) (hT : TabOk w) :
    Calls Tryd.prog 6 #[.agg #[.int .i64 o, .int .i64 h]] w fun e w' => e = .returned (.tuple #[.string ⟨(fmtL o h).toArray⟩, .int .i64 0]) ∧ Below w.heap.size w w' := by
  obtain ⟨o0, o1, h0, h1, hs⟩ := gasE_z hg
  have b1 := dec_ok o0 o1
  have b2 := dec_ok h0 h1
  have b3 := dec_ok (n := o / 10) (by omega) (by omega)
  have b4 := dec_ok (n := h / 10) (by omega) (by omega)
  unfold fmtL
  split
  · rename_i c; obtain ⟨rfl, rfl⟩ := c; exact Format_eAir w
  split
  · rename_i _ c; obtain ⟨rfl, rfl⟩ := c; exact Format_eOxy w
  split
  · rename_i _ _ c; obtain ⟨rfl, rfl⟩ := c; exact Format_eHel w
  rename_i c1 c2 c3
  split
  · rename_i c
    by_cases c4 : o % 10 = 0
    · exact Format_B o h (h % 10) _ _ w o0 o1 h0 h1 hg b1.1 b2.1 hT c4 rfl (by omega) (by omega) (by omega) rfl rfl
    · exact Format_A o h (o % 10) _ _ w o0 o1 h0 h1 hg b1.1 b2.1 hT rfl c4 (by omega) (by omega) (by omega) rfl rfl
  rename_i c
  split
  · rename_i c5
    exact Format_C o h 0 _ [] w o0 o1 h0 h1 hg b3.1 (by simp) hT (by omega) (by omega) (by omega) c5 rfl
  · rename_i c5
    by_cases c6 : o = 0
    · have := Format_E o h 0 (dec (o / 10)) (dec (h / 10)) w o0 o1 h0 h1 hg b3.1 b4.1 hT c6 (by omega) c5 (by omega) (by subst c6; rfl) rfl
      exact this
    · exact Format_D o h 0 _ _ w o0 o1 h0 h1 hg b3.1 b4.1 hT (by omega) (by omega) c5 c6 rfl rfl
end Go.Proofs.YtpagbkbaphjmdaaDoor
