/- What is written is read again: gas.Parse at the text of a gas. -/
import Derived.Test.YtpagbkbaphjmdaaDoorFormat
import Derived.Outline
namespace Go.Proofs.YtpagbkbaphjmdaaDoor
open Go.ChangeShapes Go.WideShapes Go.ChangeAt Go.RowKit
set_option linter.unusedVariables false
set_option linter.unusedSimpArgs false

theorem index47 (b : List UInt8) : ∀ a : List UInt8, (47 : UInt8) ∉ a → Lib.index (a ++ 47 :: b) [47] = (a.length : Int)
  | [], _ => by simp [Lib.index]
  | x :: r, h => by
    have hx : ¬ (47 : UInt8) = x := fun e => h (by simp [e])
    have ih := index47 b r (fun hm => h (by simp [hm]))
    have hb : ((47 : UInt8) == x) = false := by simpa using hx
    show Lib.index (x :: (r ++ 47 :: b)) [47] = _
    unfold Lib.index
    have hp : ([47] : List UInt8).isPrefixOf (x :: (r ++ 47 :: b)) = false := by simp [List.isPrefixOf, hb]
    rw [hp, ih]
    have : ((r.length : Int) == -1) = false := by first | (simp; done) | (simp; omega)
    rw [this]
    simp
theorem cut47 (a b : List UInt8) (h : (47 : UInt8) ∉ a) : Lib.cut (a ++ 47 :: b) [47] = (a, b, true) := by
  unfold Lib.cut
  rw [index47 b a h, if_pos (by omega)]
  simp
theorem cut_is (s : ByteArray) (a b : List UInt8) (w : World) (hs : Hid (s = ⟨(a ++ 47 :: b).toArray⟩)) (m : Int) (h : (47 : UInt8) ∉ a) (hl : a.length ≤ 1000) (hl2 : b.length ≤ 1000) (hm : w.cell? ⟨1, 0, none⟩ = some (.int .i64 m)) :
    Calls Tryd.prog 46 #[.string s, .string ⟨#[47]⟩] w fun e w' => e = .returned (.tuple #[.string ⟨a.toArray⟩, .string ⟨b.toArray⟩, .bool true]) ∧ Below w.heap.size w w' := by
  rw [hs.out]
  exact (Tryd.strings_Cut ⟨(a ++ 47 :: b).toArray⟩ ⟨#[47]⟩ m w (by show (a ++ 47 :: b).toArray.size < _; simp; omega) hm).mono fun _ _ h' => ⟨h'.1.trans (by
    show Ending.returned (.tuple #[.string ⟨(Lib.cut (a ++ 47 :: b) [47]).1.toArray⟩, .string ⟨(Lib.cut (a ++ 47 :: b) [47]).2.1.toArray⟩, .bool (Lib.cut (a ++ 47 :: b) [47]).2.2]) = _
    rw [cut47 a b h]), by obtain ⟨n, rfl⟩ := h'.2; exact below_drewN (Below.refl _ _) n⟩
theorem atoi_is (d : List UInt8) (n : Int) (w : World) (hl : d.length ≤ 1000) (ha : Hid (Lib.atoiAll d = .ok n)) :
    Calls Tryd.prog 54 #[.string ⟨d.toArray⟩] w fun e w' => e = .returned (.tuple #[.int .i64 n, .nilIface]) ∧ Below w.heap.size w w' :=
  (Tryd.strconv_Atoi_ok ⟨d.toArray⟩ (by show d.toArray.size ≤ _; simp; omega) n ha.out w).mono fun _ _ h => ⟨h.1, by
    rcases h.2 with rfl | ⟨t, rfl⟩
    · exact Below.refl _ _
    · exact below_bytes _ _ _⟩
theorem readShare_is (d : List UInt8) (n : Int) (w : World) (h0 : 0 ≤ n) (h1 : n ≤ 1000) (hl : d.length ≤ 1000) (ha : Hid (Lib.atoiAll d = .ok n)) :
    Calls Tryd.prog 47 #[.string ⟨d.toArray⟩] w fun e w' => e = .returned (.tuple #[.int .i64 n, .bool true]) ∧ Below w.heap.size w w' := by
  have hi : inB n 0 1000 = true := inB_true h0 h1
  go_enter Tryd.func47, Tryd.ntmps47
  go_wp2_with (first | (go_at_call 54; ((with_reducible refine (atoi_is d n _ hl ha).mono ?_)); rintro e w1 ⟨rfl, hbw⟩; obtain ⟨hbc, hbf⟩ := bcell hbw; have hbs := hbw.size) | (go_at_call 23; ((with_reducible refine (within_any _ _ _ _).mono ?_)); rintro e w' ⟨rfl, rfl⟩))
  go_ret2
  exact ⟨by first | rfl | (simp [hi]; done), (by (repeat (first | (with_reducible refine Below.drew ?_) | (with_reducible refine below_drewN ?_ _) | (with_reducible refine Below.alloc ?_ (by first | omega | (simp; done) | (simp; omega) | (simp at *; omega)) _) | (with_reducible refine Below.setCell ?_ (by first | omega | (simp; done) | (simp; omega) | (simp at *; omega)) _) | (with_reducible exact Below.refl _ _) | (with_reducible assumption) | (with_reducible refine Below.trans ?_ (Below.mono (by assumption) (by first | omega | (simp; done) | (simp; omega) | (simp at *; omega)))))))⟩
theorem oldM {w w' : World} {b o : Nat} {v : Value} (hb : Below w.heap.size w w') (h : w.cell? ⟨b, o, none⟩ = some v) : w'.cell? ⟨b, o, none⟩ = some v :=
  (hb.cell (p := ⟨b, o, none⟩) (by have := World.block_lt_of_cell? _ _ h; simpa using this)).trans h
set_option maxHeartbeats 1000000 in
theorem readShares_is (s : ByteArray) (a b : List UInt8) (n k u N K : Int) (w : World) (m : Int) (hm : w.cell? ⟨1, 0, none⟩ = some (.int .i64 m)) (n0 : 0 ≤ n) (n1 : n ≤ 1000) (k0 : 0 ≤ k) (k1 : k ≤ 1000) (la : a.length ≤ 1000) (lb : b.length ≤ 1000) (hss : Hid (s = ⟨(a ++ 47 :: b).toArray⟩)) (hs : (47 : UInt8) ∉ a) (ha : Hid (Lib.atoiAll a = .ok n)) (hb : Hid (Lib.atoiAll b = .ok k)) (hN : IntKind.i64.wrap (n * u) = N) (hK : IntKind.i64.wrap (k * u) = K) :
    Calls Tryd.prog 38 #[.string s, .int .i64 u] w fun e w' => e = .returned (.tuple #[.agg #[.int .i64 N, .int .i64 K], .bool true]) ∧ Below w.heap.size w w' := by
  have hl := World.block_lt_of_cell? _ _ hm
  have hne : w.heap.size ≠ 1 := by simp at hl; omega
  have hl2 : 1 < w.heap.size := by simpa using hl
  have HS := Lib.hid hs
  clear hs
  go_enter Tryd.func38, Tryd.ntmps38
  go_wp2_with ((go_at_call 46; ((with_reducible refine (cut_is s a b _ hss m HS.out la lb (by simp [go_sem, World.cell?_alloc_past, *])).mono ?_)); rintro e w1 ⟨rfl, hbw1⟩; obtain ⟨hbc1, hbf1⟩ := bcell hbw1; have hbs1 := hbw1.size))
  have c1 : w1.cell? ⟨w.heap.size, 0, none⟩ = some (.int .i64 0) := by rw [hbc1 _ _ (by simp)]; simp [go_sem]
  have c2 : w1.cell? ⟨w.heap.size, 1, none⟩ = some (.int .i64 0) := by rw [hbc1 _ _ (by simp)]; simp [go_sem]
  have c3 : w1.frozen? ⟨w.heap.size, 0, none⟩ = false := by rw [hbf1 _ _ (by simp)]; simp [go_sem]
  have c4 : w1.frozen? ⟨w.heap.size, 1, none⟩ = false := by rw [hbf1 _ _ (by simp)]; simp [go_sem]
  have hB1 : Below w.heap.size w w1 := (by (repeat (first | (with_reducible refine Below.drew ?_) | (with_reducible refine below_drewN ?_ _) | (with_reducible refine Below.alloc ?_ (by first | omega | (simp; done) | (simp; omega) | (simp at *; omega)) _) | (with_reducible refine Below.setCell ?_ (by first | omega | (simp; done) | (simp; omega) | (simp at *; omega)) _) | (with_reducible exact Below.refl _ _) | (with_reducible assumption) | (with_reducible refine Below.trans ?_ (Below.mono (by assumption) (by first | omega | (simp; done) | (simp; omega) | (simp at *; omega)))))))
  have s1 : w.heap.size < w1.heap.size := by simp at hbs1; omega
  clear hbc1 hbf1
  go_wp2_with ((go_at_call 47; ((with_reducible refine (readShare_is a n _ n0 n1 la ha).mono ?_)); rintro e w2 ⟨rfl, hbw2⟩; obtain ⟨hbc2, hbf2⟩ := bcell hbw2; have hbs2 := hbw2.size))
  have d1 : w2.cell? ⟨w.heap.size, 0, none⟩ = some (.int .i64 0) := by rw [hbc2 _ _ s1, c1]
  have d2 : w2.cell? ⟨w.heap.size, 1, none⟩ = some (.int .i64 0) := by rw [hbc2 _ _ s1, c2]
  have d3 : w2.frozen? ⟨w.heap.size, 0, none⟩ = false := by rw [hbf2 _ _ s1, c3]
  have d4 : w2.frozen? ⟨w.heap.size, 1, none⟩ = false := by rw [hbf2 _ _ s1, c4]
  have hB2 : Below w.heap.size w w2 := hB1.trans (hbw2.mono (by omega))
  have s2 : w.heap.size < w2.heap.size := by omega
  clear hbc2 hbf2 c1 c2 c3 c4
  go_wp2_with ((go_at_call 47; ((with_reducible refine (readShare_is b k _ k0 k1 lb hb).mono ?_)); rintro e w3 ⟨rfl, hbw3⟩; obtain ⟨hbc3, hbf3⟩ := bcell hbw3; have hbs3 := hbw3.size))
  have hB3 : Below w.heap.size w w3 := hB2.trans (hbw3.mono (by omega))
  have f1 : w3.cell? ⟨w.heap.size, 0, none⟩ = some (.int .i64 0) := by rw [hbc3 _ _ s2, d1]
  have f2 : w3.cell? ⟨w.heap.size, 1, none⟩ = some (.int .i64 0) := by rw [hbc3 _ _ s2, d2]
  refine bodyPost_ret (v := .tuple #[.agg #[.int .i64 N, .int .i64 K], .bool true]) (by simp [results, Tryd.results38, go_sem, *]) rfl ⟨rfl, ?_⟩
  (repeat (first | (with_reducible refine Below.drew ?_) | (with_reducible refine below_drewN ?_ _) | (with_reducible refine Below.alloc ?_ (by first | omega | (simp; done) | (simp; omega) | (simp at *; omega)) _) | (with_reducible refine Below.setCell ?_ (by first | omega | (simp; done) | (simp; omega) | (simp at *; omega)) _) | (with_reducible exact Below.refl _ _) | (with_reducible assumption) | (with_reducible refine Below.trans ?_ (Below.mono (by assumption) (by first | omega | (simp; done) | (simp; omega) | (simp at *; omega))))))
/-! ### The look-up of a name -/
theorem neB {a b : ByteArray} (h : ¬ a = b) : (a == b) = false := by
  obtain ⟨a⟩ := a
  obtain ⟨b⟩ := b
  show (a == b) = false
  exact beq_false_of_ne fun e => h (by rw [e])
theorem findNo (k : ByteArray) (h1 : ¬ k = nAir) (h2 : ¬ k = nOxy) (h3 : ¬ k = nHel) : Instr.findNow .string (.string k) namedEs.toList 0 = some none := by
  have e1 : (k == nAir) = false := neB h1
  have e2 : (k == nOxy) = false := neB h2
  have e3 : (k == nHel) = false := neB h3
  simp [namedEs, eAir, eOxy, eHel, Instr.findNow, Instr.sameNow, e1, e2, e3]
theorem lookNo (k : ByteArray) (w : World) (r : Nat) (hb : w.heap[r]? = some (.map namedEs 3)) (h1 : ¬ k = nAir) (h2 : ¬ k = nOxy) (h3 : ¬ k = nHel) :
    (Instr.lookup 55 (.map (some r)) (.string k) true).run Tryd.prog w = .ok (.tuple #[.agg #[.int .i64 0, .int .i64 0], .bool false]) w := by
  have hz : ∀ w : World, (zeroValue 23).run Tryd.prog w = .ok (.agg #[.int .i64 0, .int .i64 0]) w := fun _ => by kernel_rfl
  have hf := fndS k namedEs.toList none w (findNo k h1 h2 h3)
  simp only [Instr.lookup, Sem.run_bind, undM, Result.andThen, getObj, Sem.run, hb, chkS]
  simp [hf, hz, Result.andThen]
end Go.Proofs.YtpagbkbaphjmdaaDoor
