/- What gas.Parse returns at the text of the examples, tx18/45. -/
import Derived.Test.YtpagbkbaphjmdaaDoorMap
import Derived.Test.YtpagbkbaphjmdaaDoorShelf
import Derived.Outline
namespace Go.Proofs.YtpagbkbaphjmdaaDoor
open Go.ChangeShapes Go.WideShapes Go.ChangeAt Go.RowKit
open Go.ChangeMaps (setBlock)
set_option linter.unusedVariables false

theorem cutNx (w : World) : Calls Tryd.prog 37 #[.string ⟨#[116, 120, 49, 56, 47, 52, 53]⟩, .string ⟨#[110, 120]⟩] w fun e w' => e = .returned (.tuple #[.string ⟨#[116, 120, 49, 56, 47, 52, 53]⟩, .bool false]) ∧ w = w' :=
  (Tryd.strings_CutPrefix ⟨#[116, 120, 49, 56, 47, 52, 53]⟩ ⟨#[110, 120]⟩ w).mono fun _ _ h => ⟨h.1.trans (by rfl), h.2.symm⟩
theorem cutTx (w : World) : Calls Tryd.prog 37 #[.string ⟨#[116, 120, 49, 56, 47, 52, 53]⟩, .string ⟨#[116, 120]⟩] w fun e w' => e = .returned (.tuple #[.string ⟨#[49, 56, 47, 52, 53]⟩, .bool true]) ∧ w = w' :=
  (Tryd.strings_CutPrefix ⟨#[116, 120, 49, 56, 47, 52, 53]⟩ ⟨#[116, 120]⟩ w).mono fun _ _ h => ⟨h.1.trans (by rfl), h.2.symm⟩
theorem cutAt (w : World) (m : Int) (hm : w.cell? ⟨1, 0, none⟩ = some (.int .i64 m)) : Calls Tryd.prog 46 #[.string ⟨#[49, 56, 47, 52, 53]⟩, .string ⟨#[47]⟩] w fun e w' => e = .returned (.tuple #[.string ⟨#[49, 56]⟩, .string ⟨#[52, 53]⟩, .bool true]) ∧ Below w.heap.size w w' :=
  (Tryd.strings_Cut ⟨#[49, 56, 47, 52, 53]⟩ ⟨#[47]⟩ m w (by decide) hm).mono fun _ _ h => ⟨h.1.trans (by rfl), by obtain ⟨n, rfl⟩ := h.2; exact below_drewN (Below.refl _ _) n⟩
theorem below_bytes (w : World) (t : ByteArray) (e : TypeId) : Below w.heap.size w (Lib.bytesWorld w e t) := by
  unfold Lib.bytesWorld
  exact Lib.below_freeze (((Below.refl _ _).drew).alloc (Nat.le_refl _) _) (p := ⟨w.heap.size, _, none⟩) (Nat.le_refl _) _
theorem atoi18 (w : World) : Calls Tryd.prog 54 #[.string ⟨#[49, 56]⟩] w fun e w' => e = .returned (.tuple #[.int .i64 18, .nilIface]) ∧ Below w.heap.size w w' :=
  (Tryd.strconv_Atoi_ok ⟨#[49, 56]⟩ (by decide) 18 (by decide +kernel) w).mono fun _ _ h => ⟨h.1, by
    rcases h.2 with rfl | ⟨t, rfl⟩
    · exact Below.refl _ _
    · exact below_bytes _ _ _⟩
theorem atoi45 (w : World) : Calls Tryd.prog 54 #[.string ⟨#[52, 53]⟩] w fun e w' => e = .returned (.tuple #[.int .i64 45, .nilIface]) ∧ Below w.heap.size w w' :=
  (Tryd.strconv_Atoi_ok ⟨#[52, 53]⟩ (by decide) 45 (by decide +kernel) w).mono fun _ _ h => ⟨h.1, by
    rcases h.2 with rfl | ⟨t, rfl⟩
    · exact Below.refl _ _
    · exact below_bytes _ _ _⟩
theorem itoa18 (w : World) : Calls Tryd.prog 18 #[.int .i64 18] w fun e w' => e = .returned (.string ⟨#[49, 56]⟩) ∧ w' = w :=
  (Tryd.strconv_Itoa_small 18 (by decide) w).mono fun _ _ h => ⟨h.1.trans (by rw [show Lib.decDigits 18 = [49, 56] from by decide +kernel]), h.2⟩
theorem itoa45 (w : World) : Calls Tryd.prog 18 #[.int .i64 45] w fun e w' => e = .returned (.string ⟨#[52, 53]⟩) ∧ w' = w :=
  (Tryd.strconv_Itoa_small 45 (by decide) w).mono fun _ _ h => ⟨h.1.trans (by rw [show Lib.decDigits 45 = [52, 53] from by decide +kernel]), h.2⟩
theorem readShare18 (w : World) : Calls Tryd.prog 47 #[.string ⟨#[49, 56]⟩] w fun e w' => e = .returned (.tuple #[.int .i64 18, .bool true]) ∧ Below w.heap.size w w' := by
  have hi : inB 18 0 1000 = true := by decide
  go_enter Tryd.func47, Tryd.ntmps47
  go_wp2_with (first | (go_at_call 54; ((with_reducible refine (atoi18 _).mono ?_)); rintro e w1 ⟨rfl, hbw⟩; obtain ⟨hbc, hbf⟩ := bcell hbw; have hbs := hbw.size) | (go_at_call 23; ((with_reducible refine (within_any _ _ _ _).mono ?_)); rintro e w' ⟨rfl, rfl⟩))
  go_ret2
  exact ⟨rfl, (by (repeat (first | (with_reducible refine Below.drew ?_) | (with_reducible refine below_drewN ?_ _) | (with_reducible refine Below.alloc ?_ (by first | omega | (simp; done) | (simp; omega) | (simp at *; omega)) _) | (with_reducible refine Below.setCell ?_ (by first | omega | (simp; done) | (simp; omega) | (simp at *; omega)) _) | (with_reducible exact Below.refl _ _) | (with_reducible assumption) | (with_reducible refine Below.trans ?_ (Below.mono (by assumption) (by first | omega | (simp; done) | (simp; omega) | (simp at *; omega)))))))⟩
theorem readShare45 (w : World) : Calls Tryd.prog 47 #[.string ⟨#[52, 53]⟩] w fun e w' => e = .returned (.tuple #[.int .i64 45, .bool true]) ∧ Below w.heap.size w w' := by
  have hi : inB 45 0 1000 = true := by decide
  go_enter Tryd.func47, Tryd.ntmps47
  go_wp2_with (first | (go_at_call 54; ((with_reducible refine (atoi45 _).mono ?_)); rintro e w1 ⟨rfl, hbw⟩; obtain ⟨hbc, hbf⟩ := bcell hbw; have hbs := hbw.size) | (go_at_call 23; ((with_reducible refine (within_any _ _ _ _).mono ?_)); rintro e w' ⟨rfl, rfl⟩))
  go_ret2
  exact ⟨rfl, (by (repeat (first | (with_reducible refine Below.drew ?_) | (with_reducible refine below_drewN ?_ _) | (with_reducible refine Below.alloc ?_ (by first | omega | (simp; done) | (simp; omega) | (simp at *; omega)) _) | (with_reducible refine Below.setCell ?_ (by first | omega | (simp; done) | (simp; omega) | (simp at *; omega)) _) | (with_reducible exact Below.refl _ _) | (with_reducible assumption) | (with_reducible refine Below.trans ?_ (Below.mono (by assumption) (by first | omega | (simp; done) | (simp; omega) | (simp at *; omega)))))))⟩
theorem lookTx (w : World) (r : Nat) (hb : w.heap[r]? = some (.map namedEs 3)) :
    (Instr.lookup 55 (.map (some r)) (.string ⟨#[116, 120, 49, 56, 47, 52, 53]⟩) true).run Tryd.prog w = .ok (.tuple #[.agg #[.int .i64 0, .int .i64 0], .bool false]) w := by
  have hz : ∀ w : World, (zeroValue 23).run Tryd.prog w = .ok (.agg #[.int .i64 0, .int .i64 0]) w := fun _ => by kernel_rfl
  have hf := fndS ⟨#[116, 120, 49, 56, 47, 52, 53]⟩ namedEs.toList none w rfl
  simp only [Instr.lookup, Sem.run_bind, undM, Result.andThen, getObj, Sem.run, hb, chkS]
  simp [hf, hz, Result.andThen]
theorem readShares_tx (w : World) (m : Int) (hm : w.cell? ⟨1, 0, none⟩ = some (.int .i64 m)) :
    Calls Tryd.prog 38 #[.string ⟨#[49, 56, 47, 52, 53]⟩, .int .i64 10] w fun e w' => e = .returned (.tuple #[.agg #[.int .i64 180, .int .i64 450], .bool true]) ∧ Below w.heap.size w w' := by
  have hl := World.block_lt_of_cell? _ _ hm
  have hne : w.heap.size ≠ 1 := by simp at hl; omega
  have hl2 : 1 < w.heap.size := by simpa using hl
  go_enter Tryd.func38, Tryd.ntmps38
  go_wp2_with ((go_at_call 46; ((with_reducible refine (cutAt _ m (by simp [go_sem, World.cell?_alloc_past, *])).mono ?_)); rintro e w1 ⟨rfl, hbw1⟩; obtain ⟨hbc1, hbf1⟩ := bcell hbw1; have hbs1 := hbw1.size))
  have c1 : w1.cell? ⟨w.heap.size, 0, none⟩ = some (.int .i64 0) := by rw [hbc1 _ _ (by simp)]; simp [go_sem]
  have c2 : w1.cell? ⟨w.heap.size, 1, none⟩ = some (.int .i64 0) := by rw [hbc1 _ _ (by simp)]; simp [go_sem]
  have c3 : w1.frozen? ⟨w.heap.size, 0, none⟩ = false := by rw [hbf1 _ _ (by simp)]; simp [go_sem]
  have c4 : w1.frozen? ⟨w.heap.size, 1, none⟩ = false := by rw [hbf1 _ _ (by simp)]; simp [go_sem]
  have hB1 : Below w.heap.size w w1 := (by (repeat (first | (with_reducible refine Below.drew ?_) | (with_reducible refine below_drewN ?_ _) | (with_reducible refine Below.alloc ?_ (by first | omega | (simp; done) | (simp; omega) | (simp at *; omega)) _) | (with_reducible refine Below.setCell ?_ (by first | omega | (simp; done) | (simp; omega) | (simp at *; omega)) _) | (with_reducible exact Below.refl _ _) | (with_reducible assumption) | (with_reducible refine Below.trans ?_ (Below.mono (by assumption) (by first | omega | (simp; done) | (simp; omega) | (simp at *; omega)))))))
  have s1 : w.heap.size < w1.heap.size := by simp at hbs1; omega
  clear hbc1 hbf1
  go_wp2_with ((go_at_call 47; ((with_reducible refine (readShare18 _).mono ?_)); rintro e w2 ⟨rfl, hbw2⟩; obtain ⟨hbc2, hbf2⟩ := bcell hbw2; have hbs2 := hbw2.size))
  have d1 : w2.cell? ⟨w.heap.size, 0, none⟩ = some (.int .i64 0) := by rw [hbc2 _ _ s1, c1]
  have d2 : w2.cell? ⟨w.heap.size, 1, none⟩ = some (.int .i64 0) := by rw [hbc2 _ _ s1, c2]
  have d3 : w2.frozen? ⟨w.heap.size, 0, none⟩ = false := by rw [hbf2 _ _ s1, c3]
  have d4 : w2.frozen? ⟨w.heap.size, 1, none⟩ = false := by rw [hbf2 _ _ s1, c4]
  have hB2 : Below w.heap.size w w2 := hB1.trans (hbw2.mono (by omega))
  have s2 : w.heap.size < w2.heap.size := by omega
  clear hbc2 hbf2 c1 c2 c3 c4
  go_wp2_with ((go_at_call 47; ((with_reducible refine (readShare45 _).mono ?_)); rintro e w3 ⟨rfl, hbw3⟩; obtain ⟨hbc3, hbf3⟩ := bcell hbw3; have hbs3 := hbw3.size))
  have hB3 : Below w.heap.size w w3 := hB2.trans (hbw3.mono (by omega))
  have f1 : w3.cell? ⟨w.heap.size, 0, none⟩ = some (.int .i64 0) := by rw [hbc3 _ _ s2, d1]
  have f2 : w3.cell? ⟨w.heap.size, 1, none⟩ = some (.int .i64 0) := by rw [hbc3 _ _ s2, d2]
  refine bodyPost_ret (v := .tuple #[.agg #[.int .i64 180, .int .i64 450], .bool true]) (by simp [results, Tryd.results38, go_sem, f1, f2]) rfl ⟨rfl, ?_⟩
  (repeat (first | (with_reducible refine Below.drew ?_) | (with_reducible refine below_drewN ?_ _) | (with_reducible refine Below.alloc ?_ (by first | omega | (simp; done) | (simp; omega) | (simp at *; omega)) _) | (with_reducible refine Below.setCell ?_ (by first | omega | (simp; done) | (simp; omega) | (simp at *; omega)) _) | (with_reducible exact Below.refl _ _) | (with_reducible assumption) | (with_reducible refine Below.trans ?_ (Below.mono (by assumption) (by first | omega | (simp; done) | (simp; omega) | (simp at *; omega))))))
theorem read_tx (w : World) (m : Int) (hm : w.cell? ⟨1, 0, none⟩ = some (.int .i64 m)) :
    Calls Tryd.prog 19 #[.string ⟨#[116, 120, 49, 56, 47, 52, 53]⟩] w fun e w' => e = .returned (.tuple #[.agg #[.int .i64 180, .int .i64 450], .bool true]) ∧ Below w.heap.size w w' := by
  have hl := World.block_lt_of_cell? _ _ hm
  have hne : w.heap.size ≠ 1 := by simp at hl; omega
  have hl2 : 1 < w.heap.size := by simpa using hl
  have hl3 : 0 < w.heap.size := by omega
  have hlk := lookTx ((w.alloc (.cells #[.int .i64 0, .int .i64 0] 23)).alloc (.map namedEs 3)) (w.heap.size + 1) (by have := alloc_at (w.alloc (.cells #[.int .i64 0, .int .i64 0] 23)) (.map namedEs 3); simpa using this)
  go_enter Tryd.func19, Tryd.ntmps19
  go_wp2_with (first | (go_at_call 17; ((with_reducible refine (namedGases_any _).mono ?_)); rintro e w' ⟨rfl, rfl⟩) | (go_at_call 37; ((with_reducible refine (cutNx _).mono ?_)); rintro e w' ⟨rfl, rfl⟩) | (go_at_call 37; ((with_reducible refine (cutTx _).mono ?_)); rintro e w' ⟨rfl, rfl⟩))
  go_wp2_with ((go_at_call 38; ((with_reducible refine (readShares_tx _ m (by simp [go_sem, World.cell?_alloc_past, *])).mono ?_)); rintro e w1 ⟨rfl, hbw1⟩; obtain ⟨hbc1, hbf1⟩ := bcell hbw1; have hbs1 := hbw1.size))
  have c1 : w1.cell? ⟨w.heap.size, 0, none⟩ = some (.int .i64 0) := by rw [hbc1 _ _ (by simp; omega)]; simp [go_sem, World.cell?_alloc_past]
  have c2 : w1.cell? ⟨w.heap.size, 1, none⟩ = some (.int .i64 0) := by rw [hbc1 _ _ (by simp; omega)]; simp [go_sem, World.cell?_alloc_past]
  refine bodyPost_ret (v := .tuple #[.agg #[.int .i64 180, .int .i64 450], .bool true]) (by simp [results, Tryd.results19, go_sem, c1, c2]) rfl ⟨rfl, ?_⟩
  (repeat (first | (with_reducible refine Below.drew ?_) | (with_reducible refine below_drewN ?_ _) | (with_reducible refine Below.alloc ?_ (by first | omega | (simp; done) | (simp; omega) | (simp at *; omega)) _) | (with_reducible refine Below.setCell ?_ (by first | omega | (simp; done) | (simp; omega) | (simp at *; omega)) _) | (with_reducible exact Below.refl _ _) | (with_reducible assumption) | (with_reducible refine Below.trans ?_ (Below.mono (by assumption) (by first | omega | (simp; done) | (simp; omega) | (simp at *; omega))))))
theorem rangeM (w : World) (r : Nat) (hb : w.heap[r]? = some (.map namedEs 3)) :
    (Instr.range 55 (.map (some r))).run Tryd.prog w = .ok (.pointer (some ⟨w.heap.size, 0, none⟩)) (w.alloc (.mapIter (some r) 3 #[] 3)) := by
  simp only [Instr.range, Sem.run_bind, undM, Result.andThen, getObj, Sem.run, hb]
  simp
def leftN (w : World) (r : Nat) : Nat := match w.heap[r]? with | some (.mapIter _ _ seen _) => (leftOf namedEs seen).size | _ => 0
theorem leftN_eq {w : World} {r : Nat} {m : Option Nat} {s c : Nat} {seen : Array Nat} (h : w.heap[r]? = some (.mapIter m s seen c)) : leftN w r = (leftOf namedEs seen).size := by
  unfold leftN; rw [h]
theorem stepF {wr w1 : World} {r : Nat} (o : Obj) (h : w1 = wr ∨ w1 = wr.drew) (hlt : r < wr.heap.size) :
    (setBlock w1 r o).heap[r]? = some o ∧ (∀ i, i ≠ r → (setBlock w1 r o).heap[i]? = wr.heap[i]?) ∧ (setBlock w1 r o).heap.size = wr.heap.size ∧ (∀ B, B ≤ r → Below B wr (setBlock w1 r o)) := by
  have e1 : w1.heap = wr.heap := by rcases h with rfl | rfl <;> rfl
  have e2 : w1.os = wr.os ∧ w1.tape = wr.tape ∧ w1.output = wr.output := by rcases h with rfl | rfl <;> exact ⟨rfl, rfl, rfl⟩
  have a2 : ∀ i, i ≠ r → (setBlock w1 r o).heap[i]? = wr.heap[i]? := fun i hi => by
    show (w1.heap.setIfInBounds r o)[i]? = _
    rw [e1, Array.getElem?_setIfInBounds_ne (by omega)]
  have a3 : (setBlock w1 r o).heap.size = wr.heap.size := by
    show (w1.heap.setIfInBounds r o).size = _
    rw [e1]; simp
  refine ⟨?_, a2, a3, fun B hB => ⟨e2.1, e2.2.1, e2.2.2, by omega, fun k hk => a2 k (by omega)⟩⟩
  show (w1.heap.setIfInBounds r o)[r]? = _
  rw [e1]
  simp [hlt]
theorem alloc_keep {w : World} {i : Nat} {o o' : Obj} (h : w.heap[i]? = some o) (hl : i < w.heap.size) : (w.alloc o').heap[i]? = some o := by
  rw [Below.heap_alloc _ _ _ hl]; exact h
theorem namedMem {e : MapEntry} (h : e ∈ namedEs.toList) : e = eAir ∨ e = eOxy ∨ e = eHel := by
  simpa [namedEs] using h
theorem namedOld : ∀ x ∈ namedEs.toList, x.born < 3 := by
  intro x hx
  rcases namedMem hx with rfl | rfl | rfl <;> decide
theorem namedNodup : (namedEs.toList.map (·.born)).Nodup := by decide
set_option maxRecDepth 100000 in
set_option maxHeartbeats 2000000 in
theorem Format_tx (w : World) :
    Calls Tryd.prog 6 #[.agg #[.int .i64 180, .int .i64 450]] w fun e w' => e = .returned (.tuple #[.string ⟨#[116, 120, 49, 56, 47, 52, 53]⟩, .int .i64 0]) ∧ Below w.heap.size w w' := by
  have hg : gasE 180 450 = 0 := by decide
  have hrg := rangeM (((w.alloc (.cells #[.int .i64 180, .int .i64 450] 23)).alloc (.cells #[.int .i64 180, .int .i64 450] 23)).alloc (.map namedEs 3)) (w.heap.size + 1 + 1) (by have := alloc_at ((w.alloc (.cells #[.int .i64 180, .int .i64 450] 23)).alloc (.cells #[.int .i64 180, .int .i64 450] 23)) (.map namedEs 3); simpa using this)
  go_enter Tryd.func6, Tryd.ntmps6
  go_wp2_with (first | (go_at_call 17; ((with_reducible refine (namedGases_any _).mono ?_)); rintro e w' ⟨rfl, rfl⟩) | (go_at_call 10; ((with_reducible refine (CheckGas_any _ _ _).mono ?_)); rintro e w' ⟨rfl, rfl⟩))
  go_loopw [14] (fun _ wr => ∃ seen, wr.heap[w.heap.size + 1 + 1 + 1]? = some (.mapIter (some (w.heap.size + 1 + 1)) 3 seen 3) ∧ wr.heap[w.heap.size + 1 + 1]? = some (.map namedEs 3) ∧ Below w.heap.size w wr ∧ w.heap.size + 4 ≤ wr.heap.size ∧ wr.cell? ⟨w.heap.size, 0, none⟩ = some (.int .i64 180) ∧ wr.cell? ⟨w.heap.size, 1, none⟩ = some (.int .i64 450)) (fun _ wr => leftN wr (w.heap.size + 1 + 1 + 1))
  case atStart =>
    refine ⟨#[], ?_, ?_, (by (repeat (first | (with_reducible refine Below.drew ?_) | (with_reducible refine below_drewN ?_ _) | (with_reducible refine Below.alloc ?_ (by first | omega | (simp; done) | (simp; omega) | (simp at *; omega)) _) | (with_reducible refine Below.setCell ?_ (by first | omega | (simp; done) | (simp; omega) | (simp at *; omega)) _) | (with_reducible exact Below.refl _ _) | (with_reducible assumption) | (with_reducible refine Below.trans ?_ (Below.mono (by assumption) (by first | omega | (simp; done) | (simp; omega) | (simp at *; omega))))))), by simp, by simp [go_sem, World.cell?_alloc_past], by simp [go_sem, World.cell?_alloc_past]⟩
    · have := alloc_at (((w.alloc (.cells #[.int .i64 180, .int .i64 450] 23)).alloc (.cells #[.int .i64 180, .int .i64 450] 23)).alloc (.map namedEs 3)) (.mapIter (some (w.heap.size + 1 + 1)) 3 #[] 3)
      simpa using this
    · have := alloc_at ((w.alloc (.cells #[.int .i64 180, .int .i64 450] 23)).alloc (.cells #[.int .i64 180, .int .i64 450] 23)) (.map namedEs 3)
      rw [Below.heap_alloc _ _ _ (by simp)]
      simpa using this
  case round =>
    obtain ⟨seen, hr, hm, hB, hsz, b0, b1⟩ := hrel
    rcases run_next_at (P := Tryd.prog) wr 0 (w.heap.size + 1 + 1 + 1) (w.heap.size + 1 + 1) 3 3 seen namedEs 3 hr hm namedOld (Nat.le_refl _) with ⟨h0, hrun⟩ | ⟨e, he, w1, hw1, hrun⟩
    · clear hr hm
      go_wp2
      go_big_quiet ((first | (go_at_call 18; exact Calls.quiet_of_same (itoa18 _)) | (go_at_call 18; exact Calls.quiet_of_same (itoa45 _))))
      go_wp2
      go_ret2
      exact ⟨by rfl, (by (repeat (first | (with_reducible refine Below.drew ?_) | (with_reducible refine below_drewN ?_ _) | (with_reducible refine Below.alloc ?_ (by first | omega | (simp; done) | (simp; omega) | (simp at *; omega)) _) | (with_reducible refine Below.setCell ?_ (by first | omega | (simp; done) | (simp; omega) | (simp at *; omega)) _) | (with_reducible exact Below.refl _ _) | (with_reducible assumption) | (with_reducible refine Below.trans ?_ (Below.mono (by assumption) (by first | omega | (simp; done) | (simp; omega) | (simp at *; omega)))))))⟩
    · obtain ⟨hmem, _⟩ := mem_left he
      obtain ⟨f1, f2, f3, f4⟩ := stepF (.mapIter (some (w.heap.size + 1 + 1)) 3 (seen.push e.born) 3) hw1 (show w.heap.size + 1 + 1 + 1 < wr.heap.size by omega)
      have hsh := left_shrinks namedEs seen e he
      have hl0 := leftN_eq hr
      generalize setBlock w1 (w.heap.size + 1 + 1 + 1) (.mapIter (some (w.heap.size + 1 + 1)) 3 (seen.push e.born) 3) = w2 at *
      have hm2 : w2.heap[w.heap.size + 1 + 1]? = some (.map namedEs 3) := by rw [f2 _ (by omega)]; exact hm
      have hen := run_entry_at (P := Tryd.prog) w2 (w.heap.size + 1 + 1 + 1) (w.heap.size + 1 + 1) 3 seen namedEs 3 e f1 hm2 hmem namedNodup
      have c0 : w2.cell? ⟨w.heap.size, 0, none⟩ = some (.int .i64 180) := by rw [(f4 (w.heap.size + 1) (by omega)).cell (p := ⟨w.heap.size, 0, none⟩) (by simp)]; exact b0
      have c1 : w2.cell? ⟨w.heap.size, 1, none⟩ = some (.int .i64 450) := by rw [(f4 (w.heap.size + 1) (by omega)).cell (p := ⟨w.heap.size, 1, none⟩) (by simp)]; exact b1
      have hB2 : Below w.heap.size w w2 := hB.trans (f4 _ (by omega))
      have n1 : w2.heap.size ≠ w.heap.size := by omega
      have n2 : w.heap.size < w2.heap.size := by omega
      have HF := Lib.hid f1
      have HM := Lib.hid hm2
      have HS := Lib.hid f3
      have HL := Lib.hid hl0
      have HH := Lib.hid hsh
      clear f1 f2 f3 f4 hm2 hr hm hw1 b0 b1 hl0 hsh he
      rcases namedMem hmem with rfl | rfl | rfl
      · have hk : eAir.key = .string nAir := rfl
        have hv : eAir.val = .agg #[.int .i64 210, .int .i64 0] := rfl
        rw [hk, hv] at hrun hen
        clear hmem hk hv
        go_wp2
        go_roundw
        case rel =>
          have hs := HS.out
          refine ⟨_, alloc_keep HF.out (by omega), alloc_keep HM.out (by omega), ?_, ?_, ?_, ?_⟩
          · (repeat (first | (with_reducible refine Below.drew ?_) | (with_reducible refine below_drewN ?_ _) | (with_reducible refine Below.alloc ?_ (by first | omega | (simp; done) | (simp; omega) | (simp at *; omega)) _) | (with_reducible refine Below.setCell ?_ (by first | omega | (simp; done) | (simp; omega) | (simp at *; omega)) _) | (with_reducible exact Below.refl _ _) | (with_reducible assumption) | (with_reducible refine Below.trans ?_ (Below.mono (by assumption) (by first | omega | (simp; done) | (simp; omega) | (simp at *; omega))))))
          · simp; omega
          · exact (((Below.refl w2.heap.size w2).alloc (Nat.le_refl _) _).cell (p := ⟨w.heap.size, 0, none⟩) n2).trans c0
          · exact (((Below.refl w2.heap.size w2).alloc (Nat.le_refl _) _).cell (p := ⟨w.heap.size, 1, none⟩) n2).trans c1
        case measure =>
          have hs := HS.out
          rw [leftN_eq (alloc_keep HF.out (by omega)), HL.out]
          exact HH.out
      · have hk : eOxy.key = .string nOxy := rfl
        have hv : eOxy.val = .agg #[.int .i64 1000, .int .i64 0] := rfl
        rw [hk, hv] at hrun hen
        clear hmem hk hv
        go_wp2
        go_roundw
        case rel =>
          have hs := HS.out
          refine ⟨_, alloc_keep HF.out (by omega), alloc_keep HM.out (by omega), ?_, ?_, ?_, ?_⟩
          · (repeat (first | (with_reducible refine Below.drew ?_) | (with_reducible refine below_drewN ?_ _) | (with_reducible refine Below.alloc ?_ (by first | omega | (simp; done) | (simp; omega) | (simp at *; omega)) _) | (with_reducible refine Below.setCell ?_ (by first | omega | (simp; done) | (simp; omega) | (simp at *; omega)) _) | (with_reducible exact Below.refl _ _) | (with_reducible assumption) | (with_reducible refine Below.trans ?_ (Below.mono (by assumption) (by first | omega | (simp; done) | (simp; omega) | (simp at *; omega))))))
          · simp; omega
          · exact (((Below.refl w2.heap.size w2).alloc (Nat.le_refl _) _).cell (p := ⟨w.heap.size, 0, none⟩) n2).trans c0
          · exact (((Below.refl w2.heap.size w2).alloc (Nat.le_refl _) _).cell (p := ⟨w.heap.size, 1, none⟩) n2).trans c1
        case measure =>
          have hs := HS.out
          rw [leftN_eq (alloc_keep HF.out (by omega)), HL.out]
          exact HH.out
      · have hk : eHel.key = .string nHel := rfl
        have hv : eHel.val = .agg #[.int .i64 0, .int .i64 1000] := rfl
        rw [hk, hv] at hrun hen
        clear hmem hk hv
        go_wp2
        go_roundw
        case rel =>
          have hs := HS.out
          refine ⟨_, alloc_keep HF.out (by omega), alloc_keep HM.out (by omega), ?_, ?_, ?_, ?_⟩
          · (repeat (first | (with_reducible refine Below.drew ?_) | (with_reducible refine below_drewN ?_ _) | (with_reducible refine Below.alloc ?_ (by first | omega | (simp; done) | (simp; omega) | (simp at *; omega)) _) | (with_reducible refine Below.setCell ?_ (by first | omega | (simp; done) | (simp; omega) | (simp at *; omega)) _) | (with_reducible exact Below.refl _ _) | (with_reducible assumption) | (with_reducible refine Below.trans ?_ (Below.mono (by assumption) (by first | omega | (simp; done) | (simp; omega) | (simp at *; omega))))))
          · simp; omega
          · exact (((Below.refl w2.heap.size w2).alloc (Nat.le_refl _) _).cell (p := ⟨w.heap.size, 0, none⟩) n2).trans c0
          · exact (((Below.refl w2.heap.size w2).alloc (Nat.le_refl _) _).cell (p := ⟨w.heap.size, 1, none⟩) n2).trans c1
        case measure =>
          have hs := HS.out
          rw [leftN_eq (alloc_keep HF.out (by omega)), HL.out]
          exact HH.out
theorem Parse_tx (w : World) (m : Int) (hm : w.cell? ⟨1, 0, none⟩ = some (.int .i64 m)) :
    Calls Tryd.prog 7 #[.string ⟨#[116, 120, 49, 56, 47, 52, 53]⟩] w fun e w' => e = .returned (.tuple #[.agg #[.int .i64 180, .int .i64 450], .int .i64 0]) ∧ Below w.heap.size w w' := by
  have hl := World.block_lt_of_cell? _ _ hm
  have hne : w.heap.size ≠ 1 := by simp at hl; omega
  have hl2 : 1 < w.heap.size := by simpa using hl
  go_enter Tryd.func7, Tryd.ntmps7
  go_wp2_with ((go_at_call 19; ((with_reducible refine (read_tx _ m (by simp [go_sem, World.cell?_alloc_past, *])).mono ?_)); rintro e w1 ⟨rfl, hbw1⟩; obtain ⟨hbc1, hbf1⟩ := bcell hbw1; have hbs1 := hbw1.size))
  have c1 : w1.cell? ⟨w.heap.size, 0, none⟩ = some (.int .i64 0) := by rw [hbc1 _ _ (by simp)]; simp [go_sem]
  have c2 : w1.cell? ⟨w.heap.size, 1, none⟩ = some (.int .i64 0) := by rw [hbc1 _ _ (by simp)]; simp [go_sem]
  have c3 : w1.frozen? ⟨w.heap.size, 0, none⟩ = false := by rw [hbf1 _ _ (by simp)]; simp [go_sem]
  have c4 : w1.frozen? ⟨w.heap.size, 1, none⟩ = false := by rw [hbf1 _ _ (by simp)]; simp [go_sem]
  have hB1 : Below w.heap.size w w1 := (by (repeat (first | (with_reducible refine Below.drew ?_) | (with_reducible refine below_drewN ?_ _) | (with_reducible refine Below.alloc ?_ (by first | omega | (simp; done) | (simp; omega) | (simp at *; omega)) _) | (with_reducible refine Below.setCell ?_ (by first | omega | (simp; done) | (simp; omega) | (simp at *; omega)) _) | (with_reducible exact Below.refl _ _) | (with_reducible assumption) | (with_reducible refine Below.trans ?_ (Below.mono (by assumption) (by first | omega | (simp; done) | (simp; omega) | (simp at *; omega)))))))
  have s1 : w.heap.size < w1.heap.size := by simp at hbs1; omega
  have s0 : w1.heap.size ≠ w.heap.size := by omega
  clear hbc1 hbf1
  go_wp2_with ((go_at_call 6; ((with_reducible refine (Format_tx _).mono ?_)); rintro e w2 ⟨rfl, hbw2⟩; obtain ⟨hbc2, hbf2⟩ := bcell hbw2; have hbs2 := hbw2.size))
  have d1 : w2.cell? ⟨w.heap.size, 0, none⟩ = some (.int .i64 0) := by rw [hbc2 _ _ (by simp; omega)]; simp [go_sem, World.cell?_alloc_past, *]
  have d2 : w2.cell? ⟨w.heap.size, 1, none⟩ = some (.int .i64 0) := by rw [hbc2 _ _ (by simp; omega)]; simp [go_sem, World.cell?_alloc_past, *]
  refine bodyPost_ret (v := .tuple #[.agg #[.int .i64 180, .int .i64 450], .int .i64 0]) (by simp [results, Tryd.results7, go_sem, d1, d2]) rfl ⟨rfl, ?_⟩
  (repeat (first | (with_reducible refine Below.drew ?_) | (with_reducible refine below_drewN ?_ _) | (with_reducible refine Below.alloc ?_ (by first | omega | (simp; done) | (simp; omega) | (simp at *; omega)) _) | (with_reducible refine Below.setCell ?_ (by first | omega | (simp; done) | (simp; omega) | (simp at *; omega)) _) | (with_reducible exact Below.refl _ _) | (with_reducible assumption) | (with_reducible refine Below.trans ?_ (Below.mono (by assumption) (by first | omega | (simp; done) | (simp; omega) | (simp at *; omega))))))
end Go.Proofs.YtpagbkbaphjmdaaDoor
