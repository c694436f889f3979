/- gas.Parse at a text of no gas: it is refused. -/
import Derived.Test.YtpagbkbaphjmdaaDoorParse
import Derived.Outline
namespace Go.Proofs.YtpagbkbaphjmdaaDoor
open Go.ChangeShapes Go.WideShapes Go.ChangeAt Go.RowKit
set_option linter.unusedVariables false
set_option linter.unusedSimpArgs false

/-- The two errors of strconv hold what an error may be. -/
def ErrOk (w : World) : Prop := ∀ g, g = 4 ∨ g = 5 → ∃ ev, w.cell? ⟨g, 0, none⟩ = some ev ∧ (ev = .nilIface ∨ ∃ te pe, ev = .iface te pe)
theorem ErrOk.below {w w' : World} (h : ErrOk w) (hb : Below w.heap.size w w') : ErrOk w' := by
  intro g hg
  obtain ⟨ev, h1, h2⟩ := h g hg
  exact ⟨ev, oldM hb h1, h2⟩
theorem atoi_ex (S : ByteArray) (w : World) (hl : S.size ≤ 1000) (hE : ErrOk w) :
    Calls Tryd.prog 54 #[.string S] w fun e w' => ∃ (n : Int) (ev : Value) (b : Bool), e = .returned (.tuple #[.int .i64 n, ev]) ∧ ((ev = .nilIface ∧ b = true) ∨ (∃ t p, ev = .iface t p ∧ b = false)) ∧ Below w.heap.size w w' := by
  cases h : Lib.atoiAll S.data.toList
  · rename_i v
    exact (Tryd.strconv_Atoi_ok S (by omega) v h w).mono fun _ _ h => ⟨v, .nilIface, true, h.1, Or.inl ⟨rfl, rfl⟩, by
      rcases h.2 with rfl | ⟨t, rfl⟩
      · exact Below.refl _ _
      · exact below_bytes _ _ _⟩
  · obtain ⟨ev, h1, h2⟩ := hE _ (Or.inl rfl)
    refine (Any.strconv_Atoi_syntax Tryd.laysC172 S (by omega) h ev w h1 h2).mono fun _ _ h => ?_
    obtain ⟨N, rfl, _, _, hb⟩ := h
    exact ⟨0, _, false, rfl, Or.inr ⟨_, _, rfl, rfl⟩, hb⟩
  · obtain ⟨ev, h1, h2⟩ := hE _ (Or.inr rfl)
    refine (Any.strconv_Atoi_range Tryd.laysC172 S (by omega) h ev w h1 h2).mono fun _ _ h => ?_
    obtain ⟨N, rfl, _, _, hb⟩ := h
    exact ⟨_, _, false, rfl, Or.inr ⟨_, _, rfl, rfl⟩, hb⟩
theorem readShare_ex (S : ByteArray) (w : World) (hl : S.size ≤ 1000) (hE : ErrOk w) :
    Calls Tryd.prog 47 #[.string S] w fun e w' => ∃ (n : Int) (b : Bool), e = .returned (.tuple #[.int .i64 n, .bool b]) ∧ Below w.heap.size w w' := by
  have HE := Lib.hid hE
  clear hE
  go_enter Tryd.func47, Tryd.ntmps47
  go_wp2_with fail
  refine (atoi_ex S _ hl HE.out).mono ?_
  rintro e w1 ⟨n, ev, b, rfl, hev, hbw⟩
  rcases hev with ⟨rfl, rfl⟩ | ⟨t, p, rfl, rfl⟩
  · obtain ⟨x, hx⟩ : ∃ x, Hid (inB n 0 1000 = x) := ⟨_, rfl⟩
    go_wp2_with ((go_at_call 23; ((with_reducible refine (within_any _ _ _ _).mono ?_)); rintro e w' ⟨rfl, rfl⟩))
    go_ret2
    exact ⟨n, inB n 0 1000, by first | rfl | (simp; done), (by (repeat (first | (with_reducible refine Below.drew ?_) | (with_reducible refine below_drewN ?_ _) | (with_reducible refine Below.alloc ?_ (by first | omega | (simp; done) | (simp; omega) | (simp at *; omega)) _) | (with_reducible refine Below.setCell ?_ (by first | omega | (simp; done) | (simp; omega) | (simp at *; omega)) _) | (with_reducible exact Below.refl _ _) | (with_reducible assumption) | (with_reducible refine Below.trans ?_ (Below.mono (by assumption) (by first | omega | (simp; done) | (simp; omega) | (simp at *; omega)))))))⟩
  · go_wp2
    go_ret2
    exact ⟨n, false, by first | rfl | (simp; done), (by (repeat (first | (with_reducible refine Below.drew ?_) | (with_reducible refine below_drewN ?_ _) | (with_reducible refine Below.alloc ?_ (by first | omega | (simp; done) | (simp; omega) | (simp at *; omega)) _) | (with_reducible refine Below.setCell ?_ (by first | omega | (simp; done) | (simp; omega) | (simp at *; omega)) _) | (with_reducible exact Below.refl _ _) | (with_reducible assumption) | (with_reducible refine Below.trans ?_ (Below.mono (by assumption) (by first | omega | (simp; done) | (simp; omega) | (simp at *; omega)))))))⟩
/-- Some gas, and whether it is one. -/
def ReadRes (e : Ending) : Prop := ∃ (N K : Int) (b : Bool), e = .returned (.tuple #[.agg #[.int .i64 N, .int .i64 K], .bool b])
theorem lib_cut_len (s sep : List UInt8) : (Lib.cut s sep).1.length ≤ s.length ∧ (Lib.cut s sep).2.1.length ≤ s.length := by
  unfold Lib.cut
  split
  · simp; omega
  · simp
theorem cut_ex (S : ByteArray) (w : World) (m : Int) (hl : S.size ≤ 1000) (hm : w.cell? ⟨1, 0, none⟩ = some (.int .i64 m)) :
    Calls Tryd.prog 46 #[.string S, .string ⟨#[47]⟩] w fun e w' => ∃ (x y : ByteArray) (f : Bool), e = .returned (.tuple #[.string x, .string y, .bool f]) ∧ x.size ≤ 1000 ∧ y.size ≤ 1000 ∧ Below w.heap.size w w' :=
  (Tryd.strings_Cut S ⟨#[47]⟩ m w (by omega) hm).mono fun _ _ h => by
    have hlen := lib_cut_len S.data.toList [47]
    have hs : S.data.toList.length = S.size := by simp
    refine ⟨_, _, _, h.1, ?_, ?_, by obtain ⟨n, rfl⟩ := h.2; exact below_drewN (Below.refl _ _) n⟩
    · show (List.toArray _).size ≤ 1000
      rw [List.size_toArray]
      exact Nat.le_trans hlen.1 (by omega)
    · show (List.toArray _).size ≤ 1000
      rw [List.size_toArray]
      exact Nat.le_trans hlen.2 (by omega)
set_option maxHeartbeats 1000000 in
theorem readShares_ex (S : ByteArray) (u : Int) (w : World) (m : Int) (hm : w.cell? ⟨1, 0, none⟩ = some (.int .i64 m)) (hl : S.size ≤ 1000) (hE : ErrOk w) :
    Calls Tryd.prog 38 #[.string S, .int .i64 u] w fun e w' => ReadRes e ∧ Below w.heap.size w w' := by
  have hlt := World.block_lt_of_cell? _ _ hm
  have hne : w.heap.size ≠ 1 := by simp at hlt; omega
  have hl2 : 1 < w.heap.size := by simpa using hlt
  have HE := Lib.hid hE
  clear hE
  go_enter Tryd.func38, Tryd.ntmps38
  go_wp2_with fail
  refine (cut_ex S _ m hl (by simp [go_sem, World.cell?_alloc_past, *])).mono ?_
  rintro e w1 ⟨x, y, f, rfl, hx, hy, hbw1⟩
  obtain ⟨hbc1, hbf1⟩ := bcell hbw1
  have hbs1 := hbw1.size
  have c1 : w1.cell? ⟨w.heap.size, 0, none⟩ = some (.int .i64 0) := by rw [hbc1 _ _ (by simp)]; simp [go_sem]
  have c2 : w1.cell? ⟨w.heap.size, 1, none⟩ = some (.int .i64 0) := by rw [hbc1 _ _ (by simp)]; simp [go_sem]
  have c3 : ∀ j, w1.frozen? ⟨w.heap.size, j, none⟩ = false := by intro j; rw [hbf1 _ _ (by simp)]; simp [go_sem]
  have hB1 : Below w.heap.size w w1 := (by (repeat (first | (with_reducible refine Below.drew ?_) | (with_reducible refine below_drewN ?_ _) | (with_reducible refine Below.alloc ?_ (by first | omega | (simp; done) | (simp; omega) | (simp at *; omega)) _) | (with_reducible refine Below.setCell ?_ (by first | omega | (simp; done) | (simp; omega) | (simp at *; omega)) _) | (with_reducible exact Below.refl _ _) | (with_reducible assumption) | (with_reducible refine Below.trans ?_ (Below.mono (by assumption) (by first | omega | (simp; done) | (simp; omega) | (simp at *; omega)))))))
  have s1 : w.heap.size < w1.heap.size := by simp at hbs1; omega
  clear hbc1 hbf1
  go_wp2_with fail
  refine (readShare_ex x _ hx (HE.out.below (by (repeat (first | (with_reducible refine Below.drew ?_) | (with_reducible refine below_drewN ?_ _) | (with_reducible refine Below.alloc ?_ (by first | omega | (simp; done) | (simp; omega) | (simp at *; omega)) _) | (with_reducible refine Below.setCell ?_ (by first | omega | (simp; done) | (simp; omega) | (simp at *; omega)) _) | (with_reducible exact Below.refl _ _) | (with_reducible assumption) | (with_reducible refine Below.trans ?_ (Below.mono (by assumption) (by first | omega | (simp; done) | (simp; omega) | (simp at *; omega))))))))).mono ?_
  rintro e w2 ⟨n, b1, rfl, hbw2⟩
  obtain ⟨hbc2, hbf2⟩ := bcell hbw2
  have hbs2 := hbw2.size
  have d1 : w2.cell? ⟨w.heap.size, 0, none⟩ = some (.int .i64 0) := by rw [hbc2 _ _ s1, c1]
  have d2 : w2.cell? ⟨w.heap.size, 1, none⟩ = some (.int .i64 0) := by rw [hbc2 _ _ s1, c2]
  have d3 : ∀ j, w2.frozen? ⟨w.heap.size, j, none⟩ = false := by intro j; rw [hbf2 _ _ s1]; exact c3 j
  have hB2 : Below w.heap.size w w2 := hB1.trans (hbw2.mono (by omega))
  have s2 : w.heap.size < w2.heap.size := by omega
  clear hbc2 hbf2 c1 c2 c3
  go_wp2_with fail
  refine (readShare_ex y _ hy (HE.out.below (by (repeat (first | (with_reducible refine Below.drew ?_) | (with_reducible refine below_drewN ?_ _) | (with_reducible refine Below.alloc ?_ (by first | omega | (simp; done) | (simp; omega) | (simp at *; omega)) _) | (with_reducible refine Below.setCell ?_ (by first | omega | (simp; done) | (simp; omega) | (simp at *; omega)) _) | (with_reducible exact Below.refl _ _) | (with_reducible assumption) | (with_reducible refine Below.trans ?_ (Below.mono (by assumption) (by first | omega | (simp; done) | (simp; omega) | (simp at *; omega))))))))).mono ?_
  rintro e w3 ⟨k, b2, rfl, hbw3⟩
  obtain ⟨hbc3, hbf3⟩ := bcell hbw3
  have hbs3 := hbw3.size
  have hB3 : Below w.heap.size w w3 := hB2.trans (hbw3.mono (by omega))
  have f1 : w3.cell? ⟨w.heap.size, 0, none⟩ = some (.int .i64 0) := by rw [hbc3 _ _ s2, d1]
  have f2 : w3.cell? ⟨w.heap.size, 1, none⟩ = some (.int .i64 0) := by rw [hbc3 _ _ s2, d2]
  have f3 : ∀ j, w3.frozen? ⟨w.heap.size, j, none⟩ = false := by intro j; rw [hbf3 _ _ s2]; exact d3 j
  clear hbc3 hbf3 d1 d2 d3
  have s3 : w.heap.size < w3.heap.size := by omega
  obtain ⟨N, hN⟩ : ∃ N, IntKind.i64.wrap (n * u) = N := ⟨_, rfl⟩
  obtain ⟨K, hK⟩ : ∃ K, IntKind.i64.wrap (k * u) = K := ⟨_, rfl⟩
  cases f <;> cases b1 <;> cases b2
  all_goals
    go_wp2
    refine bodyPost_ret (v := .tuple #[.agg #[.int .i64 N, .int .i64 K], .bool _]) (by simp [results, Tryd.results38, go_sem, f1, f2]; rfl) rfl ⟨⟨N, K, _, rfl⟩, ?_⟩
    (repeat (first | (with_reducible refine Below.drew ?_) | (with_reducible refine below_drewN ?_ _) | (with_reducible refine Below.alloc ?_ (by first | omega | (simp; done) | (simp; omega) | (simp at *; omega)) _) | (with_reducible refine Below.setCell ?_ (by first | omega | (simp; done) | (simp; omega) | (simp at *; omega)) _) | (with_reducible exact Below.refl _ _) | (with_reducible assumption) | (with_reducible refine Below.trans ?_ (Below.mono (by assumption) (by first | omega | (simp; done) | (simp; omega) | (simp at *; omega))))))
theorem cutP_gen (S : ByteArray) (p : List UInt8) (w : World) :
    Calls Tryd.prog 37 #[.string S, .string ⟨p.toArray⟩] w fun e w' => ∃ (T : ByteArray) (b : Bool), e = .returned (.tuple #[.string T, .bool b]) ∧ T.size ≤ S.size ∧ w = w' :=
  (Tryd.strings_CutPrefix S ⟨p.toArray⟩ w).mono fun _ _ h => ⟨_, _, h.1, by
    show (List.toArray _).size ≤ S.size
    rw [List.size_toArray]
    have := Lib.trimPrefix_le S.data.toList p
    have hs : S.data.toList.length = S.size := by simp
    exact Nat.le_trans this (by omega), h.2.symm⟩
set_option maxRecDepth 100000 in
set_option maxHeartbeats 1000000 in
theorem read_ex (S : ByteArray) (w : World) (m : Int) (hm : w.cell? ⟨1, 0, none⟩ = some (.int .i64 m)) (hl : S.size ≤ 900) (hE : ErrOk w) (n1 : ¬ S = nAir) (n2 : ¬ S = nOxy) (n3 : ¬ S = nHel) :
    Calls Tryd.prog 19 #[.string S] w fun e w' => ReadRes e ∧ Below w.heap.size w w' := by
  have hlt := World.block_lt_of_cell? _ _ hm
  have hne : w.heap.size ≠ 1 := by simp at hlt; omega
  have hl2 : 1 < w.heap.size := by simpa using hlt
  have hl3 : 0 < w.heap.size := by omega
  have hlk := lookNo S ((w.alloc (.cells #[.int .i64 0, .int .i64 0] 23)).alloc (.map namedEs 3)) (w.heap.size + 1) (by have := alloc_at (w.alloc (.cells #[.int .i64 0, .int .i64 0] 23)) (.map namedEs 3); simpa using this) n1 n2 n3
  have HE := Lib.hid hE
  clear n1 n2 n3 hE
  go_enter Tryd.func19, Tryd.ntmps19
  go_wp2_with ((go_at_call 17; ((with_reducible refine (namedGases_any _).mono ?_)); rintro e w' ⟨rfl, rfl⟩))
  go_wp2_with fail
  refine (cutP_gen S [110, 120] _).mono ?_
  rintro e wA ⟨T1, b1, rfl, hT1, rfl⟩
  cases b1
  · go_wp2_with fail
    refine (cutP_gen S [116, 120] _).mono ?_
    rintro e wA ⟨T2, b2, rfl, hT2, rfl⟩
    cases b2
    · go_wp2_with fail
      refine (cutP_gen S [103, 97, 115] _).mono ?_
      rintro e wA ⟨T3, b3, rfl, hT3, rfl⟩
      cases b3
      · go_wp2
        refine bodyPost_ret (v := .tuple #[.agg #[.int .i64 0, .int .i64 0], .bool false]) (by simp [results, Tryd.results19, go_sem, World.cell?_alloc_past]) rfl ⟨⟨0, 0, false, rfl⟩, ?_⟩
        (repeat (first | (with_reducible refine Below.drew ?_) | (with_reducible refine below_drewN ?_ _) | (with_reducible refine Below.alloc ?_ (by first | omega | (simp; done) | (simp; omega) | (simp at *; omega)) _) | (with_reducible refine Below.setCell ?_ (by first | omega | (simp; done) | (simp; omega) | (simp at *; omega)) _) | (with_reducible exact Below.refl _ _) | (with_reducible assumption) | (with_reducible refine Below.trans ?_ (Below.mono (by assumption) (by first | omega | (simp; done) | (simp; omega) | (simp at *; omega))))))
      · skip
        go_wp2_with fail
        refine (readShares_ex T3 1 _ m (by simp [go_sem, World.cell?_alloc_past, *]) (by omega) (HE.out.below (by (repeat (first | (with_reducible refine Below.drew ?_) | (with_reducible refine below_drewN ?_ _) | (with_reducible refine Below.alloc ?_ (by first | omega | (simp; done) | (simp; omega) | (simp at *; omega)) _) | (with_reducible refine Below.setCell ?_ (by first | omega | (simp; done) | (simp; omega) | (simp at *; omega)) _) | (with_reducible exact Below.refl _ _) | (with_reducible assumption) | (with_reducible refine Below.trans ?_ (Below.mono (by assumption) (by first | omega | (simp; done) | (simp; omega) | (simp at *; omega))))))))).mono ?_
        rintro e w1 ⟨⟨N, K, b, rfl⟩, hbw1⟩
        obtain ⟨hbc1, hbf1⟩ := bcell hbw1
        have hbs1 := hbw1.size
        have c1 : w1.cell? ⟨w.heap.size, 0, none⟩ = some (.int .i64 0) := by rw [hbc1 _ _ (by first | (simp; done) | (simp; omega) | omega)]; simp [go_sem, World.cell?_alloc_past]
        have c2 : w1.cell? ⟨w.heap.size, 1, none⟩ = some (.int .i64 0) := by rw [hbc1 _ _ (by first | (simp; done) | (simp; omega) | omega)]; simp [go_sem, World.cell?_alloc_past]
        have f1 : ∀ j, w1.frozen? ⟨w.heap.size, j, none⟩ = false := by intro j; rw [hbf1 _ _ (by first | (simp; done) | (simp; omega) | omega)]; simp [go_sem]
        clear hbc1 hbf1
        go_wp2
        refine bodyPost_ret (v := .tuple #[.agg #[.int .i64 N, .int .i64 K], .bool b]) (by simp [results, Tryd.results19, go_sem, c1, c2]) rfl ⟨⟨N, K, b, rfl⟩, ?_⟩
        (repeat (first | (with_reducible refine Below.drew ?_) | (with_reducible refine below_drewN ?_ _) | (with_reducible refine Below.alloc ?_ (by first | omega | (simp; done) | (simp; omega) | (simp at *; omega)) _) | (with_reducible refine Below.setCell ?_ (by first | omega | (simp; done) | (simp; omega) | (simp at *; omega)) _) | (with_reducible exact Below.refl _ _) | (with_reducible assumption) | (with_reducible refine Below.trans ?_ (Below.mono (by assumption) (by first | omega | (simp; done) | (simp; omega) | (simp at *; omega))))))
    · skip
      go_wp2_with fail
      refine (readShares_ex T2 10 _ m (by simp [go_sem, World.cell?_alloc_past, *]) (by omega) (HE.out.below (by (repeat (first | (with_reducible refine Below.drew ?_) | (with_reducible refine below_drewN ?_ _) | (with_reducible refine Below.alloc ?_ (by first | omega | (simp; done) | (simp; omega) | (simp at *; omega)) _) | (with_reducible refine Below.setCell ?_ (by first | omega | (simp; done) | (simp; omega) | (simp at *; omega)) _) | (with_reducible exact Below.refl _ _) | (with_reducible assumption) | (with_reducible refine Below.trans ?_ (Below.mono (by assumption) (by first | omega | (simp; done) | (simp; omega) | (simp at *; omega))))))))).mono ?_
      rintro e w1 ⟨⟨N, K, b, rfl⟩, hbw1⟩
      obtain ⟨hbc1, hbf1⟩ := bcell hbw1
      have hbs1 := hbw1.size
      have c1 : w1.cell? ⟨w.heap.size, 0, none⟩ = some (.int .i64 0) := by rw [hbc1 _ _ (by first | (simp; done) | (simp; omega) | omega)]; simp [go_sem, World.cell?_alloc_past]
      have c2 : w1.cell? ⟨w.heap.size, 1, none⟩ = some (.int .i64 0) := by rw [hbc1 _ _ (by first | (simp; done) | (simp; omega) | omega)]; simp [go_sem, World.cell?_alloc_past]
      have f1 : ∀ j, w1.frozen? ⟨w.heap.size, j, none⟩ = false := by intro j; rw [hbf1 _ _ (by first | (simp; done) | (simp; omega) | omega)]; simp [go_sem]
      clear hbc1 hbf1
      go_wp2
      refine bodyPost_ret (v := .tuple #[.agg #[.int .i64 N, .int .i64 K], .bool b]) (by simp [results, Tryd.results19, go_sem, c1, c2]) rfl ⟨⟨N, K, b, rfl⟩, ?_⟩
      (repeat (first | (with_reducible refine Below.drew ?_) | (with_reducible refine below_drewN ?_ _) | (with_reducible refine Below.alloc ?_ (by first | omega | (simp; done) | (simp; omega) | (simp at *; omega)) _) | (with_reducible refine Below.setCell ?_ (by first | omega | (simp; done) | (simp; omega) | (simp at *; omega)) _) | (with_reducible exact Below.refl _ _) | (with_reducible assumption) | (with_reducible refine Below.trans ?_ (Below.mono (by assumption) (by first | omega | (simp; done) | (simp; omega) | (simp at *; omega))))))
  · have hz : ¬ 9223372036854775807 < T1.size + 2 := by omega
    obtain ⟨T, hT⟩ : ∃ T : ByteArray, T1 ++ ⟨#[47, 48]⟩ = T := ⟨_, rfl⟩
    have hTs : T.size ≤ 1000 := by rw [← hT, ByteArray.size_append]; show T1.size + 2 ≤ 1000; omega
    go_wp2_with fail
    refine (readShares_ex T 10 _ m (by simp [go_sem, World.cell?_alloc_past, *]) (by omega) (HE.out.below (by (repeat (first | (with_reducible refine Below.drew ?_) | (with_reducible refine below_drewN ?_ _) | (with_reducible refine Below.alloc ?_ (by first | omega | (simp; done) | (simp; omega) | (simp at *; omega)) _) | (with_reducible refine Below.setCell ?_ (by first | omega | (simp; done) | (simp; omega) | (simp at *; omega)) _) | (with_reducible exact Below.refl _ _) | (with_reducible assumption) | (with_reducible refine Below.trans ?_ (Below.mono (by assumption) (by first | omega | (simp; done) | (simp; omega) | (simp at *; omega))))))))).mono ?_
    rintro e w1 ⟨⟨N, K, b, rfl⟩, hbw1⟩
    obtain ⟨hbc1, hbf1⟩ := bcell hbw1
    have hbs1 := hbw1.size
    have c1 : w1.cell? ⟨w.heap.size, 0, none⟩ = some (.int .i64 0) := by rw [hbc1 _ _ (by first | (simp; done) | (simp; omega) | omega)]; simp [go_sem, World.cell?_alloc_past]
    have c2 : w1.cell? ⟨w.heap.size, 1, none⟩ = some (.int .i64 0) := by rw [hbc1 _ _ (by first | (simp; done) | (simp; omega) | omega)]; simp [go_sem, World.cell?_alloc_past]
    have f1 : ∀ j, w1.frozen? ⟨w.heap.size, j, none⟩ = false := by intro j; rw [hbf1 _ _ (by first | (simp; done) | (simp; omega) | omega)]; simp [go_sem]
    clear hbc1 hbf1
    go_wp2
    refine bodyPost_ret (v := .tuple #[.agg #[.int .i64 N, .int .i64 K], .bool b]) (by simp [results, Tryd.results19, go_sem, c1, c2]) rfl ⟨⟨N, K, b, rfl⟩, ?_⟩
    (repeat (first | (with_reducible refine Below.drew ?_) | (with_reducible refine below_drewN ?_ _) | (with_reducible refine Below.alloc ?_ (by first | omega | (simp; done) | (simp; omega) | (simp at *; omega)) _) | (with_reducible refine Below.setCell ?_ (by first | omega | (simp; done) | (simp; omega) | (simp at *; omega)) _) | (with_reducible exact Below.refl _ _) | (with_reducible assumption) | (with_reducible refine Below.trans ?_ (Below.mono (by assumption) (by first | omega | (simp; done) | (simp; omega) | (simp at *; omega))))))
theorem CheckGas_n (o h c : Int) (w : World) (hc : Hid (gasE o h = c)) :
    Calls Tryd.prog 10 #[.agg #[.int .i64 o, .int .i64 h]] w fun e w' => e = .returned (.int .i64 c) ∧ w.alloc (.cells #[.int .i64 o, .int .i64 h] 23) = w' := by
  have := CheckGas_any o h w
  rw [hc.out] at this
  exact this
theorem Format_bad (o h c : Int) (w : World) (hg : Hid (gasE o h = c)) (hc : (c != 0) = true) :
    Calls Tryd.prog 6 #[.agg #[.int .i64 o, .int .i64 h]] w fun e w' => e = .returned (.tuple #[.string ⟨#[]⟩, .int .i64 c]) ∧ Below w.heap.size w w' := by
  go_enter Tryd.func6, Tryd.ntmps6
  go_wp2_with ((go_at_call 10; ((with_reducible refine (CheckGas_n o h c _ hg).mono ?_)); rintro e w' ⟨rfl, rfl⟩))
  go_ret2
  exact ⟨by first | rfl | (simp; done), (by (repeat (first | (with_reducible refine Below.drew ?_) | (with_reducible refine below_drewN ?_ _) | (with_reducible refine Below.alloc ?_ (by first | omega | (simp; done) | (simp; omega) | (simp at *; omega)) _) | (with_reducible refine Below.setCell ?_ (by first | omega | (simp; done) | (simp; omega) | (simp at *; omega)) _) | (with_reducible exact Below.refl _ _) | (with_reducible assumption) | (with_reducible refine Below.trans ?_ (Below.mono (by assumption) (by first | omega | (simp; done) | (simp; omega) | (simp at *; omega)))))))⟩
end Go.Proofs.YtpagbkbaphjmdaaDoor
