/- gas.Parse reads the text that gas.Format writes. -/
import Derived.Test.YtpagbkbaphjmdaaDoorRead
import Derived.Outline
namespace Go.Proofs.YtpagbkbaphjmdaaDoor
open Go.ChangeShapes Go.WideShapes Go.ChangeAt Go.RowKit
set_option linter.unusedVariables false
set_option linter.unusedSimpArgs false

theorem cutP_hit (S : ByteArray) (p r : List UInt8) (w : World) (hs : Hid (S = ⟨(p ++ r).toArray⟩)) :
    Calls Tryd.prog 37 #[.string S, .string ⟨p.toArray⟩] w fun e w' => e = .returned (.tuple #[.string ⟨r.toArray⟩, .bool true]) ∧ w = w' := by
  rw [hs.out]
  refine (Tryd.strings_CutPrefix ⟨(p ++ r).toArray⟩ ⟨p.toArray⟩ w).mono fun _ _ h => ⟨h.1.trans ?_, h.2.symm⟩
  show Ending.returned (.tuple #[.string ⟨(Lib.trimPrefix (p ++ r) p).toArray⟩, .bool (Lib.hasPrefix (p ++ r) p)]) = _
  have h1 : Lib.hasPrefix (p ++ r) p = true := by unfold Lib.hasPrefix; simp
  unfold Lib.trimPrefix
  rw [if_pos h1, h1]
  simp
theorem cutP_miss (S : ByteArray) (p : List UInt8) (w : World) (hs : Hid (Lib.hasPrefix S.data.toList p = false)) :
    Calls Tryd.prog 37 #[.string S, .string ⟨p.toArray⟩] w fun e w' => e = .returned (.tuple #[.string S, .bool false]) ∧ w = w' := by
  refine (Tryd.strings_CutPrefix S ⟨p.toArray⟩ w).mono fun _ _ h => ⟨h.1.trans ?_, h.2.symm⟩
  show Ending.returned (.tuple #[.string ⟨(Lib.trimPrefix S.data.toList p).toArray⟩, .bool (Lib.hasPrefix S.data.toList p)]) = _
  unfold Lib.trimPrefix
  rw [hs.out]
  obtain ⟨⟨l⟩⟩ := S
  rfl
theorem eqB (S : ByteArray) : (S == S) = true := by
  obtain ⟨a⟩ := S
  show (a == a) = true
  simp
theorem nameNe {l : List UInt8} {k : ByteArray} (h : ¬ l = k.data.toList) : ¬ (⟨l.toArray⟩ : ByteArray) = k := fun e => h (by rw [← e])
set_option maxHeartbeats 1000000 in
theorem read_nx (S : ByteArray) (w : World) (m : Int) (hm : w.cell? ⟨1, 0, none⟩ = some (.int .i64 m)) (n1 : ¬ S = nAir) (n2 : ¬ S = nOxy) (n3 : ¬ S = nHel) (a : List UInt8) (n N : Int) (n0 : 0 ≤ n) (n9 : n ≤ 1000) (la : a.length ≤ 4) (hq : Hid ((47 : UInt8) ∉ a)) (ha : Hid (Lib.atoiAll a = .ok n)) (hS : Hid (S = ⟨([110, 120] ++ a).toArray⟩)) (hN : IntKind.i64.wrap (n * 10) = N) :
    Calls Tryd.prog 19 #[.string S] w fun e w' => e = .returned (.tuple #[.agg #[.int .i64 N, .int .i64 0], .bool true]) ∧ Below w.heap.size w w' := by
  have hl := World.block_lt_of_cell? _ _ hm
  have hne : w.heap.size ≠ 1 := by simp at hl; omega
  have hl2 : 1 < w.heap.size := by simpa using hl
  have hl3 : 0 < w.heap.size := by omega
  have hlk := lookNo S ((w.alloc (.cells #[.int .i64 0, .int .i64 0] 23)).alloc (.map namedEs 3)) (w.heap.size + 1) (by have := alloc_at (w.alloc (.cells #[.int .i64 0, .int .i64 0] 23)) (.map namedEs 3); simpa using this) n1 n2 n3
  clear n1 n2 n3
  obtain ⟨T, hT⟩ : ∃ T : ByteArray, (⟨a.toArray⟩ : ByteArray) ++ ⟨#[47, 48]⟩ = T := ⟨_, rfl⟩
  have HA : Hid (T = ⟨(a ++ 47 :: [48]).toArray⟩) := by show _ = _; rw [← hT, bapp]; simp
  have H0 : Hid (Lib.atoiAll [48] = .ok 0) := by show _ = _; decide
  have hz : ¬ 9223372036854775807 < a.length + 2 := by omega
  have hz0 : IntKind.i64.wrap (0 * 10) = 0 := by rw [show (0 : Int) * 10 = 0 from rfl]; exact IntWalk.i64_in _ (by omega)
  go_enter Tryd.func19, Tryd.ntmps19
  go_wp2_with (first | (go_at_call 17; ((with_reducible refine (namedGases_any _).mono ?_)); rintro e w' ⟨rfl, rfl⟩) | (go_at_call 37; ((with_reducible refine (cutP_hit S [110, 120] a _ hS).mono ?_)); rintro e w' ⟨rfl, rfl⟩))
  go_wp2_with fail
  refine (readShares_is T a [48] n 0 10 N 0 _ m (by simp [go_sem, World.cell?_alloc_past, *]) n0 n9 (by omega) (by omega) (by omega) (by simp) HA hq.out ha H0 hN hz0).mono ?_
  rintro e w1 ⟨rfl, hbw1⟩
  obtain ⟨hbc1, hbf1⟩ := bcell hbw1
  have hbs1 := hbw1.size
  go_wp2
  have c1 : w1.cell? ⟨w.heap.size, 0, none⟩ = some (.int .i64 0) := by rw [hbc1 _ _ (by first | (simp; done) | (simp; omega) | omega)]; simp [go_sem, World.cell?_alloc_past]
  have c2 : w1.cell? ⟨w.heap.size, 1, none⟩ = some (.int .i64 0) := by rw [hbc1 _ _ (by first | (simp; done) | (simp; omega) | omega)]; simp [go_sem, World.cell?_alloc_past]
  refine bodyPost_ret (v := .tuple #[.agg #[.int .i64 N, .int .i64 0], .bool true]) (by simp [results, Tryd.results19, go_sem, c1, c2]) rfl ⟨rfl, ?_⟩
  (repeat (first | (with_reducible refine Below.drew ?_) | (with_reducible refine below_drewN ?_ _) | (with_reducible refine Below.alloc ?_ (by first | omega | (simp; done) | (simp; omega) | (simp at *; omega)) _) | (with_reducible refine Below.setCell ?_ (by first | omega | (simp; done) | (simp; omega) | (simp at *; omega)) _) | (with_reducible exact Below.refl _ _) | (with_reducible assumption) | (with_reducible refine Below.trans ?_ (Below.mono (by assumption) (by first | omega | (simp; done) | (simp; omega) | (simp at *; omega))))))
set_option maxHeartbeats 1000000 in
theorem read_tx2 (S : ByteArray) (w : World) (m : Int) (hm : w.cell? ⟨1, 0, none⟩ = some (.int .i64 m)) (n1 : ¬ S = nAir) (n2 : ¬ S = nOxy) (n3 : ¬ S = nHel) (a b : List UInt8) (n k N K : Int) (n0 : 0 ≤ n) (n9 : n ≤ 1000) (la : a.length ≤ 4) (hq : Hid ((47 : UInt8) ∉ a)) (ha : Hid (Lib.atoiAll a = .ok n)) (k0 : 0 ≤ k) (k9 : k ≤ 1000) (lb : b.length ≤ 4) (hb : Hid (Lib.atoiAll b = .ok k)) (hS : Hid (S = ⟨([116, 120] ++ (a ++ 47 :: b)).toArray⟩)) (hN : IntKind.i64.wrap (n * 10) = N) (hK : IntKind.i64.wrap (k * 10) = K) :
    Calls Tryd.prog 19 #[.string S] w fun e w' => e = .returned (.tuple #[.agg #[.int .i64 N, .int .i64 K], .bool true]) ∧ Below w.heap.size w w' := by
  have hl := World.block_lt_of_cell? _ _ hm
  have hne : w.heap.size ≠ 1 := by simp at hl; omega
  have hl2 : 1 < w.heap.size := by simpa using hl
  have hl3 : 0 < w.heap.size := by omega
  have hlk := lookNo S ((w.alloc (.cells #[.int .i64 0, .int .i64 0] 23)).alloc (.map namedEs 3)) (w.heap.size + 1) (by have := alloc_at (w.alloc (.cells #[.int .i64 0, .int .i64 0] 23)) (.map namedEs 3); simpa using this) n1 n2 n3
  clear n1 n2 n3
  have M1 : Hid (Lib.hasPrefix S.data.toList [110, 120] = false) := by show _ = _; rw [hS.out]; rfl
  go_enter Tryd.func19, Tryd.ntmps19
  go_wp2_with (first | (go_at_call 17; ((with_reducible refine (namedGases_any _).mono ?_)); rintro e w' ⟨rfl, rfl⟩) | (go_at_call 37; ((with_reducible refine (cutP_miss S [110, 120] _ M1).mono ?_)); rintro e w' ⟨rfl, rfl⟩) | (go_at_call 37; ((with_reducible refine (cutP_hit S [116, 120] (a ++ 47 :: b) _ hS).mono ?_)); rintro e w' ⟨rfl, rfl⟩))
  go_wp2_with fail
  refine (readShares_is ⟨(a ++ 47 :: b).toArray⟩ a b n k 10 N K _ m (by simp [go_sem, World.cell?_alloc_past, *]) n0 n9 k0 k9 (by omega) (by omega) rfl hq.out ha hb hN hK).mono ?_
  rintro e w1 ⟨rfl, hbw1⟩
  obtain ⟨hbc1, hbf1⟩ := bcell hbw1
  have hbs1 := hbw1.size
  go_wp2
  have c1 : w1.cell? ⟨w.heap.size, 0, none⟩ = some (.int .i64 0) := by rw [hbc1 _ _ (by first | (simp; done) | (simp; omega) | omega)]; simp [go_sem, World.cell?_alloc_past]
  have c2 : w1.cell? ⟨w.heap.size, 1, none⟩ = some (.int .i64 0) := by rw [hbc1 _ _ (by first | (simp; done) | (simp; omega) | omega)]; simp [go_sem, World.cell?_alloc_past]
  refine bodyPost_ret (v := .tuple #[.agg #[.int .i64 N, .int .i64 K], .bool true]) (by simp [results, Tryd.results19, go_sem, c1, c2]) rfl ⟨rfl, ?_⟩
  (repeat (first | (with_reducible refine Below.drew ?_) | (with_reducible refine below_drewN ?_ _) | (with_reducible refine Below.alloc ?_ (by first | omega | (simp; done) | (simp; omega) | (simp at *; omega)) _) | (with_reducible refine Below.setCell ?_ (by first | omega | (simp; done) | (simp; omega) | (simp at *; omega)) _) | (with_reducible exact Below.refl _ _) | (with_reducible assumption) | (with_reducible refine Below.trans ?_ (Below.mono (by assumption) (by first | omega | (simp; done) | (simp; omega) | (simp at *; omega))))))
set_option maxHeartbeats 1000000 in
theorem read_gas (S : ByteArray) (w : World) (m : Int) (hm : w.cell? ⟨1, 0, none⟩ = some (.int .i64 m)) (n1 : ¬ S = nAir) (n2 : ¬ S = nOxy) (n3 : ¬ S = nHel) (a b : List UInt8) (n k : Int) (n0 : 0 ≤ n) (n9 : n ≤ 1000) (la : a.length ≤ 4) (hq : Hid ((47 : UInt8) ∉ a)) (ha : Hid (Lib.atoiAll a = .ok n)) (k0 : 0 ≤ k) (k9 : k ≤ 1000) (lb : b.length ≤ 4) (hb : Hid (Lib.atoiAll b = .ok k)) (hS : Hid (S = ⟨([103, 97, 115] ++ (a ++ 47 :: b)).toArray⟩)) (hN : IntKind.i64.wrap (n * 1) = n) (hK : IntKind.i64.wrap (k * 1) = k) :
    Calls Tryd.prog 19 #[.string S] w fun e w' => e = .returned (.tuple #[.agg #[.int .i64 n, .int .i64 k], .bool true]) ∧ Below w.heap.size w w' := by
  have hl := World.block_lt_of_cell? _ _ hm
  have hne : w.heap.size ≠ 1 := by simp at hl; omega
  have hl2 : 1 < w.heap.size := by simpa using hl
  have hl3 : 0 < w.heap.size := by omega
  have hlk := lookNo S ((w.alloc (.cells #[.int .i64 0, .int .i64 0] 23)).alloc (.map namedEs 3)) (w.heap.size + 1) (by have := alloc_at (w.alloc (.cells #[.int .i64 0, .int .i64 0] 23)) (.map namedEs 3); simpa using this) n1 n2 n3
  clear n1 n2 n3
  have M1 : Hid (Lib.hasPrefix S.data.toList [110, 120] = false) := by show _ = _; rw [hS.out]; rfl
  have M2 : Hid (Lib.hasPrefix S.data.toList [116, 120] = false) := by show _ = _; rw [hS.out]; rfl
  go_enter Tryd.func19, Tryd.ntmps19
  go_wp2_with (first | (go_at_call 17; ((with_reducible refine (namedGases_any _).mono ?_)); rintro e w' ⟨rfl, rfl⟩) | (go_at_call 37; ((with_reducible refine (cutP_miss S [110, 120] _ M1).mono ?_)); rintro e w' ⟨rfl, rfl⟩) | (go_at_call 37; ((with_reducible refine (cutP_miss S [116, 120] _ M2).mono ?_)); rintro e w' ⟨rfl, rfl⟩) | (go_at_call 37; ((with_reducible refine (cutP_hit S [103, 97, 115] (a ++ 47 :: b) _ hS).mono ?_)); rintro e w' ⟨rfl, rfl⟩))
  go_wp2_with fail
  refine (readShares_is ⟨(a ++ 47 :: b).toArray⟩ a b n k 1 n k _ m (by simp [go_sem, World.cell?_alloc_past, *]) n0 n9 k0 k9 (by omega) (by omega) rfl hq.out ha hb hN hK).mono ?_
  rintro e w1 ⟨rfl, hbw1⟩
  obtain ⟨hbc1, hbf1⟩ := bcell hbw1
  have hbs1 := hbw1.size
  go_wp2
  have c1 : w1.cell? ⟨w.heap.size, 0, none⟩ = some (.int .i64 0) := by rw [hbc1 _ _ (by first | (simp; done) | (simp; omega) | omega)]; simp [go_sem, World.cell?_alloc_past]
  have c2 : w1.cell? ⟨w.heap.size, 1, none⟩ = some (.int .i64 0) := by rw [hbc1 _ _ (by first | (simp; done) | (simp; omega) | omega)]; simp [go_sem, World.cell?_alloc_past]
  refine bodyPost_ret (v := .tuple #[.agg #[.int .i64 n, .int .i64 k], .bool true]) (by simp [results, Tryd.results19, go_sem, c1, c2]) rfl ⟨rfl, ?_⟩
  (repeat (first | (with_reducible refine Below.drew ?_) | (with_reducible refine below_drewN ?_ _) | (with_reducible refine Below.alloc ?_ (by first | omega | (simp; done) | (simp; omega) | (simp at *; omega)) _) | (with_reducible refine Below.setCell ?_ (by first | omega | (simp; done) | (simp; omega) | (simp at *; omega)) _) | (with_reducible exact Below.refl _ _) | (with_reducible assumption) | (with_reducible refine Below.trans ?_ (Below.mono (by assumption) (by first | omega | (simp; done) | (simp; omega) | (simp at *; omega))))))
theorem look_eAir (w : World) (r : Nat) (hb : w.heap[r]? = some (.map namedEs 3)) :
    (Instr.lookup 55 (.map (some r)) (.string nAir) true).run Tryd.prog w = .ok (.tuple #[.agg #[.int .i64 210, .int .i64 0], .bool true]) w := by
  have hf := fndS nAir namedEs.toList (some (0, .agg #[.int .i64 210, .int .i64 0])) w rfl
  simp only [Instr.lookup, Sem.run_bind, undM, Result.andThen, getObj, Sem.run, hb, chkS]
  simp [hf, Result.andThen]
theorem read_eAir (w : World) :
    Calls Tryd.prog 19 #[.string nAir] w fun e w' => e = .returned (.tuple #[.agg #[.int .i64 210, .int .i64 0], .bool true]) ∧ Below w.heap.size w w' := by
  have hlk := look_eAir ((w.alloc (.cells #[.int .i64 0, .int .i64 0] 23)).alloc (.map namedEs 3)) (w.heap.size + 1) (by have := alloc_at (w.alloc (.cells #[.int .i64 0, .int .i64 0] 23)) (.map namedEs 3); simpa using this)
  go_enter Tryd.func19, Tryd.ntmps19
  go_wp2_with ((go_at_call 17; ((with_reducible refine (namedGases_any _).mono ?_)); rintro e w' ⟨rfl, rfl⟩))
  refine bodyPost_ret (v := .tuple #[.agg #[.int .i64 210, .int .i64 0], .bool true]) (by simp [results, Tryd.results19, go_sem, World.cell?_alloc_past]) rfl ⟨rfl, ?_⟩
  (repeat (first | (with_reducible refine Below.drew ?_) | (with_reducible refine below_drewN ?_ _) | (with_reducible refine Below.alloc ?_ (by first | omega | (simp; done) | (simp; omega) | (simp at *; omega)) _) | (with_reducible refine Below.setCell ?_ (by first | omega | (simp; done) | (simp; omega) | (simp at *; omega)) _) | (with_reducible exact Below.refl _ _) | (with_reducible assumption) | (with_reducible refine Below.trans ?_ (Below.mono (by assumption) (by first | omega | (simp; done) | (simp; omega) | (simp at *; omega))))))
theorem look_eOxy (w : World) (r : Nat) (hb : w.heap[r]? = some (.map namedEs 3)) :
    (Instr.lookup 55 (.map (some r)) (.string nOxy) true).run Tryd.prog w = .ok (.tuple #[.agg #[.int .i64 1000, .int .i64 0], .bool true]) w := by
  have hf := fndS nOxy namedEs.toList (some (1, .agg #[.int .i64 1000, .int .i64 0])) w rfl
  simp only [Instr.lookup, Sem.run_bind, undM, Result.andThen, getObj, Sem.run, hb, chkS]
  simp [hf, Result.andThen]
theorem read_eOxy (w : World) :
    Calls Tryd.prog 19 #[.string nOxy] w fun e w' => e = .returned (.tuple #[.agg #[.int .i64 1000, .int .i64 0], .bool true]) ∧ Below w.heap.size w w' := by
  have hlk := look_eOxy ((w.alloc (.cells #[.int .i64 0, .int .i64 0] 23)).alloc (.map namedEs 3)) (w.heap.size + 1) (by have := alloc_at (w.alloc (.cells #[.int .i64 0, .int .i64 0] 23)) (.map namedEs 3); simpa using this)
  go_enter Tryd.func19, Tryd.ntmps19
  go_wp2_with ((go_at_call 17; ((with_reducible refine (namedGases_any _).mono ?_)); rintro e w' ⟨rfl, rfl⟩))
  refine bodyPost_ret (v := .tuple #[.agg #[.int .i64 1000, .int .i64 0], .bool true]) (by simp [results, Tryd.results19, go_sem, World.cell?_alloc_past]) rfl ⟨rfl, ?_⟩
  (repeat (first | (with_reducible refine Below.drew ?_) | (with_reducible refine below_drewN ?_ _) | (with_reducible refine Below.alloc ?_ (by first | omega | (simp; done) | (simp; omega) | (simp at *; omega)) _) | (with_reducible refine Below.setCell ?_ (by first | omega | (simp; done) | (simp; omega) | (simp at *; omega)) _) | (with_reducible exact Below.refl _ _) | (with_reducible assumption) | (with_reducible refine Below.trans ?_ (Below.mono (by assumption) (by first | omega | (simp; done) | (simp; omega) | (simp at *; omega))))))
theorem look_eHel (w : World) (r : Nat) (hb : w.heap[r]? = some (.map namedEs 3)) :
    (Instr.lookup 55 (.map (some r)) (.string nHel) true).run Tryd.prog w = .ok (.tuple #[.agg #[.int .i64 0, .int .i64 1000], .bool true]) w := by
  have hf := fndS nHel namedEs.toList (some (2, .agg #[.int .i64 0, .int .i64 1000])) w rfl
  simp only [Instr.lookup, Sem.run_bind, undM, Result.andThen, getObj, Sem.run, hb, chkS]
  simp [hf, Result.andThen]
theorem read_eHel (w : World) :
    Calls Tryd.prog 19 #[.string nHel] w fun e w' => e = .returned (.tuple #[.agg #[.int .i64 0, .int .i64 1000], .bool true]) ∧ Below w.heap.size w w' := by
  have hlk := look_eHel ((w.alloc (.cells #[.int .i64 0, .int .i64 0] 23)).alloc (.map namedEs 3)) (w.heap.size + 1) (by have := alloc_at (w.alloc (.cells #[.int .i64 0, .int .i64 0] 23)) (.map namedEs 3); simpa using this)
  go_enter Tryd.func19, Tryd.ntmps19
  go_wp2_with ((go_at_call 17; ((with_reducible refine (namedGases_any _).mono ?_)); rintro e w' ⟨rfl, rfl⟩))
  refine bodyPost_ret (v := .tuple #[.agg #[.int .i64 0, .int .i64 1000], .bool true]) (by simp [results, Tryd.results19, go_sem, World.cell?_alloc_past]) rfl ⟨rfl, ?_⟩
  (repeat (first | (with_reducible refine Below.drew ?_) | (with_reducible refine below_drewN ?_ _) | (with_reducible refine Below.alloc ?_ (by first | omega | (simp; done) | (simp; omega) | (simp at *; omega)) _) | (with_reducible refine Below.setCell ?_ (by first | omega | (simp; done) | (simp; omega) | (simp at *; omega)) _) | (with_reducible exact Below.refl _ _) | (with_reducible assumption) | (with_reducible refine Below.trans ?_ (Below.mono (by assumption) (by first | omega | (simp; done) | (simp; omega) | (simp at *; omega))))))
theorem read_fmt (o h : Int) (S : ByteArray) (w : World) (m : Int) (hm : w.cell? ⟨1, 0, none⟩ = some (.int .i64 m)) (hg : gasE o h = 0) (hS : Hid (S = ⟨(fmtL o h).toArray⟩)) :
    Calls Tryd.prog 19 #[.string S] w fun e w' => e = .returned (.tuple #[.agg #[.int .i64 o, .int .i64 h], .bool true]) ∧ Below w.heap.size w w' := by
  obtain ⟨o0, o1, h0, h1, hs⟩ := gasE_z hg
  obtain ⟨b10, _, b12, b13⟩ := dec_ok o0 o1
  obtain ⟨b20, _, b22, b23⟩ := dec_ok h0 h1
  obtain ⟨b30, _, b32, b33⟩ := dec_ok (n := o / 10) (by omega) (by omega)
  obtain ⟨b40, _, b42, b43⟩ := dec_ok (n := h / 10) (by omega) (by omega)
  have HS := hS.out
  unfold fmtL at HS
  split at HS
  · rename_i c; obtain ⟨rfl, rfl⟩ := c; rw [HS]; exact read_eAir w
  split at HS
  · rename_i _ c; obtain ⟨rfl, rfl⟩ := c; rw [HS]; exact read_eOxy w
  split at HS
  · rename_i _ _ c; obtain ⟨rfl, rfl⟩ := c; rw [HS]; exact read_eHel w
  rename_i c1 c2 c3
  have ne : ∀ (l : List UInt8) (k : ByteArray), S = ⟨l.toArray⟩ → ¬ l.head? = k.data.toList.head? → ¬ S = k := fun l k e hne he => hne (by rw [← he, e])
  split at HS
  · have e : S = ⟨([103, 97, 115] ++ (dec o ++ 47 :: dec h)).toArray⟩ := by rw [HS]; simp
    exact read_gas S w m hm (ne _ _ e (by simp [nAir])) (ne _ _ e (by simp [nOxy])) (ne _ _ e (by simp [nHel])) (dec o) (dec h) o h o0 o1 b10 b12 b13 h0 h1 b20 b23 e (by rw [Int.mul_one]; exact IntWalk.i64_in _ (by omega)) (by rw [Int.mul_one]; exact IntWalk.i64_in _ (by omega))
  rename_i c
  split at HS
  · rename_i c5
    subst c5
    have e : S = ⟨([110, 120] ++ dec (o / 10)).toArray⟩ := by rw [HS]
    exact read_nx S w m hm (ne _ _ e (by simp [nAir])) (ne _ _ e (by simp [nOxy])) (ne _ _ e (by simp [nHel])) (dec (o / 10)) (o / 10) o (by omega) (by omega) b30 b32 b33 e (by rw [show o / 10 * 10 = o by omega]; exact IntWalk.i64_in _ (by omega))
  · have e : S = ⟨([116, 120] ++ (dec (o / 10) ++ 47 :: dec (h / 10))).toArray⟩ := by rw [HS]; simp
    exact read_tx2 S w m hm (ne _ _ e (by simp [nAir])) (ne _ _ e (by simp [nOxy])) (ne _ _ e (by simp [nHel])) (dec (o / 10)) (dec (h / 10)) (o / 10) (h / 10) o h (by omega) (by omega) b30 b32 b33 (by omega) (by omega) b40 b43 e (by rw [show o / 10 * 10 = o by omega]; exact IntWalk.i64_in _ (by omega)) (by rw [show h / 10 * 10 = h by omega]; exact IntWalk.i64_in _ (by omega))
theorem Format_is (o h : Int) (S : ByteArray) (w : World) (hg : gasE o h = 0) (hT : TabOk w) (hS : Hid (S = ⟨(fmtL o h).toArray⟩)) :
    Calls Tryd.prog 6 #[.agg #[.int .i64 o, .int .i64 h]] w fun e w' => e = .returned (.tuple #[.string S, .int .i64 0]) ∧ Below w.heap.size w w' := by
  have := Format_any o h w hg hT
  rw [← hS.out] at this
  exact this
set_option maxHeartbeats 1000000 in
theorem Parse_fmt (o h : Int) (S : ByteArray) (w : World) (m : Int) (hm : w.cell? ⟨1, 0, none⟩ = some (.int .i64 m)) (hT : TabOk w) (hg : gasE o h = 0) (hS : Hid (S = ⟨(fmtL o h).toArray⟩)) :
    Calls Tryd.prog 7 #[.string S] w fun e w' => e = .returned (.tuple #[.agg #[.int .i64 o, .int .i64 h], .int .i64 0]) ∧ Below w.heap.size w w' := by
  have hl := World.block_lt_of_cell? _ _ hm
  have hne : w.heap.size ≠ 1 := by simp at hl; omega
  have hl2 : 1 < w.heap.size := by simpa using hl
  have HT := Lib.hid hT
  have HG := Lib.hid hg
  have e1 := eqB S
  have e2 : (S != S) = false := by unfold bne; rw [e1]; rfl
  clear hT hg
  go_enter Tryd.func7, Tryd.ntmps7
  go_wp2_with ((go_at_call 19; ((with_reducible refine (read_fmt o h S _ m (by simp [go_sem, World.cell?_alloc_past, *]) HG.out hS).mono ?_)); rintro e w1 ⟨rfl, hbw1⟩; obtain ⟨hbc1, hbf1⟩ := bcell hbw1; have hbs1 := hbw1.size))
  have c1 : w1.cell? ⟨w.heap.size, 0, none⟩ = some (.int .i64 0) := by rw [hbc1 _ _ (by simp)]; simp [go_sem]
  have c2 : w1.cell? ⟨w.heap.size, 1, none⟩ = some (.int .i64 0) := by rw [hbc1 _ _ (by simp)]; simp [go_sem]
  have c3 : w1.frozen? ⟨w.heap.size, 0, none⟩ = false := by rw [hbf1 _ _ (by simp)]; simp [go_sem]
  have c4 : w1.frozen? ⟨w.heap.size, 1, none⟩ = false := by rw [hbf1 _ _ (by simp)]; simp [go_sem]
  have hB1 : Below w.heap.size w w1 := (by (repeat (first | (with_reducible refine Below.drew ?_) | (with_reducible refine below_drewN ?_ _) | (with_reducible refine Below.alloc ?_ (by first | omega | (simp; done) | (simp; omega) | (simp at *; omega)) _) | (with_reducible refine Below.setCell ?_ (by first | omega | (simp; done) | (simp; omega) | (simp at *; omega)) _) | (with_reducible exact Below.refl _ _) | (with_reducible assumption) | (with_reducible refine Below.trans ?_ (Below.mono (by assumption) (by first | omega | (simp; done) | (simp; omega) | (simp at *; omega)))))))
  have s1 : w.heap.size < w1.heap.size := by simp at hbs1; omega
  have s0 : w1.heap.size ≠ w.heap.size := by omega
  clear hbc1 hbf1
  go_wp2_with ((go_at_call 6; ((with_reducible refine (Format_is o h S _ HG.out (HT.out.below (by (repeat (first | (with_reducible refine Below.drew ?_) | (with_reducible refine below_drewN ?_ _) | (with_reducible refine Below.alloc ?_ (by first | omega | (simp; done) | (simp; omega) | (simp at *; omega)) _) | (with_reducible refine Below.setCell ?_ (by first | omega | (simp; done) | (simp; omega) | (simp at *; omega)) _) | (with_reducible exact Below.refl _ _) | (with_reducible assumption) | (with_reducible refine Below.trans ?_ (Below.mono (by assumption) (by first | omega | (simp; done) | (simp; omega) | (simp at *; omega)))))))) hS).mono ?_)); rintro e w2 ⟨rfl, hbw2⟩; obtain ⟨hbc2, hbf2⟩ := bcell hbw2; have hbs2 := hbw2.size))
  have d1 : w2.cell? ⟨w.heap.size, 0, none⟩ = some (.int .i64 0) := by rw [hbc2 _ _ (by simp; omega)]; simp [go_sem, World.cell?_alloc_past, *]
  have d2 : w2.cell? ⟨w.heap.size, 1, none⟩ = some (.int .i64 0) := by rw [hbc2 _ _ (by simp; omega)]; simp [go_sem, World.cell?_alloc_past, *]
  refine bodyPost_ret (v := .tuple #[.agg #[.int .i64 o, .int .i64 h], .int .i64 0]) (by simp [results, Tryd.results7, go_sem, d1, d2]) rfl ⟨rfl, ?_⟩
  (repeat (first | (with_reducible refine Below.drew ?_) | (with_reducible refine below_drewN ?_ _) | (with_reducible refine Below.alloc ?_ (by first | omega | (simp; done) | (simp; omega) | (simp at *; omega)) _) | (with_reducible refine Below.setCell ?_ (by first | omega | (simp; done) | (simp; omega) | (simp at *; omega)) _) | (with_reducible exact Below.refl _ _) | (with_reducible assumption) | (with_reducible refine Below.trans ?_ (Below.mono (by assumption) (by first | omega | (simp; done) | (simp; omega) | (simp at *; omega))))))
end Go.Proofs.YtpagbkbaphjmdaaDoor
