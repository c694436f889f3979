import Derived.Test.YtgidmmmdpmophaaRSFECpP
import Derived.Lib.AppendZeros
import Derived.Outline
namespace Go.Proofs.Ytgidmmmdpmophaa
open Go.ChangeShapes Go.WideShapes Go.ChangeAt Go.RowKit
set_option linter.unusedVariables false
set_option linter.unusedSimpArgs false
attribute [local go_sem ↓] Go.wp_at_zero Go.wp_at_succ
theorem eqGc (a : Addr) (n c : Nat) (w : World) : (binOp .eql 22 (.slice (some a) n c) (.slice none 0 0)).run Try.prog w = .ok (.bool false) w := by kernel_rfl
theorem infoGaK : (Try.prog.info? 92).map (fun i => (i.zero, i.size, i.bytes)) = some (some (.agg #[.int .i64 0, .int .i64 0]), 2, 16) := by kernel_rfl
set_option maxRecDepth 100000 in
theorem cloneGa_is (L : List Ga) (b o cap n : Nat) (w : World) (hn : Hid (n = L.length)) (hl : n ≤ 1000000) (hS : SlRows gaV 2 w (some ⟨b, o, none⟩) L) :
    Calls Try.prog 65 #[.slice (some ⟨b, o, none⟩) n cap] w fun e w' => ∃ (G : Option Addr) (cg : Nat), e = .returned (.slice G n cg) ∧ SlRows gaV 2 w' G L ∧ (∀ ad, G = some ad → w.heap.size ≤ ad.block) ∧ (G = none → cg = 0) ∧ Below w.heap.size w w' := by
  obtain ⟨i0, hi, hz0, hz1, hz2⟩ := info_partsG infoGaK
  have HI := Lib.hid hi
  have HZ0 := Lib.hid hz0
  have HZ1 := Lib.hid hz1
  have HZ2 := Lib.hid hz2
  have HL := Lib.hid (rowsV_len (f := gaV) (n := 2) (fun _ => rfl) L)
  rw [← hn.out] at HL
  have HO := Lib.hid (World.ownsRow_made (base := w.heap.size) (e := 92) (size := 2) w #[] 0 (Nat.le_refl _) (by simp) (by simp))
  have HX := Lib.hid (srcG (f := gaV) (n := 2) (fun _ => rfl) (by decide) (hS.below (Below.alloc (Below.refl _ w) (Nat.le_refl _) (.cells #[] 92))))
  have hC : Hid ((some ⟨b, o, none⟩ : Option Addr) = none → n = 0 ∧ cap = 0) := Lib.hid (fun e => by cases e)
  clear hi hz0 hz1 hz2 hS
  have hen := eqGc ⟨b, o, none⟩ n cap
  go_enter Try.func65, Try.ntmps65
  go_wp2_with (at_builtin; refine wpList_append_slG rfl _ _ 22 rfl w.heap.size 92 i0 (.agg #[.int .i64 0, .int .i64 0]) 2 16 Try.underlying22 HI.out HZ0.out HZ1.out HZ2.out rfl (by decide) _ 0 [] rfl HO.out (some ⟨b, o, none⟩) n cap (rowsV gaV L) rfl hC.out HL.out HX.out (rows_one gaV_one L) ?c1 ?c2 ?c3 ?_)
  case c1 => unfold maxLen; omega
  case c2 => omega
  case c3 => simp
  intro v' w1 hown hgrow hblk
  have hB : Below w.heap.size w w1 := ((Below.refl w.heap.size w).alloc (Nat.le_refl _) _).grown hgrow (by simp) (by intro k hk; simp [Value.ownBlock] at hk; omega)
  (try simp only [Nat.zero_add, List.nil_append] at hown)
  obtain ⟨G, cg, hv, hS, hGB, hN, _, _⟩ := SlRows_own (f := gaV) (n := 2) (L := L) (fun _ => rfl) (by rw [← hn.out]; exact hown)
  rw [← hn.out] at hv
  subst hv
  have HS := Lib.hid hS
  have HGB := Lib.hid hGB
  have HN := Lib.hid hN
  clear hown hgrow hblk hS hN hGB
  go_wp2
  go_ret
  exact ⟨G, cg, rfl, HS.out, HGB.out, HN.out, hB⟩
theorem infoLeK : (Try.prog.info? 64).map (fun i => (i.zero, i.size, i.bytes)) = some (some (.agg #[.int .i64 0, .int .i64 0, .int .i64 0]), 3, 24) := by kernel_rfl
def GrowL (w : World) (e : Ending) (w' : World) : Prop := ∃ (G : Option Addr) (cap : Nat), e = .returned (.slice G 0 cap) ∧ w'.ownsRow w.heap.size 64 3 (.slice G 0 cap) 0 [] ∧ Below w.heap.size w w'
set_option maxRecDepth 100000 in
set_option maxHeartbeats 1000000 in
theorem growL_is (n : Nat) (w : World) (h1 : n ≤ 100000) :
    Calls Try.prog 72 #[.slice none 0 0, .int .i64 n] w (GrowL w) := by
  obtain ⟨i0, hi, hz0, hz1, hz2⟩ := info_partsG infoLeK
  have HI := Lib.hid hi
  have HZ0 := Lib.hid hz0
  have HZ1 := Lib.hid hz1
  have HZ2 := Lib.hid hz2
  have w1 : IntKind.i64.wrap (n : Int) = n := IntWalk.i64_in _ (by omega)
  clear hi hz0 hz1 hz2
  by_cases h0 : 0 < n
  · have n0 : (0 : Int) < (n : Int) := by omega
    have n1 : (0 : Int) ≤ (n : Int) := by omega
    have hc := grownCap_le_maxLen w n 0 64 (by unfold maxLen; omega)
    have hg := grownCap_ge w n 0 64
    obtain ⟨G, hG⟩ : ∃ G, Hid (grownCap w n 0 64 = G) := ⟨_, Lib.hid rfl⟩
    have hrun := Lib.run_append_nil_zeros (P := Try.prog) w 23 3 23 64 i0 (.agg #[.int .i64 0, .int .i64 0, .int .i64 0]) .i64 .i64 Try.underlying23 Try.underlying3 HI.out HZ0.out n h0 (by rw [HZ1.out]; omega) (by omega) (by rw [HZ2.out]; omega)
    rw [hG.out] at hrun hc hg
    obtain ⟨Z, hZ⟩ : ∃ Z : Array Value, Hid (Builtin.zeroCells (Value.agg #[.int .i64 0, .int .i64 0, .int .i64 0]).cells n ++ Builtin.zeroCells (Value.agg #[.int .i64 0, .int .i64 0, .int .i64 0]).cells (G - n) = Z) := ⟨_, Lib.hid rfl⟩
    have hs : Z.size = G * 3 := by
      rw [← hZ.out, Array.size_append, size_zeroCells, size_zeroCells]
      show n * 3 + (G - n) * 3 = G * 3
      omega
    rw [hZ.out] at hrun
    have HRUN := Lib.hid hrun
    have HO := Lib.hid (World.ownsRow_made (base := w.heap.size) (e := 64) (size := 3) w Z G (Nat.le_refl _) hc hs).drew
    have HGm := Lib.hid hg
    have g0 : n ≤ G := hg
    have g1 : (0 : Int) ≤ (G : Int) := by omega
    have g2 : 0 ≤ G := by omega
    clear hrun hc hs hg hG hZ
    go_enter Try.func72, Try.ntmps72
    go_wp2_with (at_builtin; refine Lib.wpList_append_run _ rfl _ _ _ _ rfl _ _ rfl rfl _ _ HRUN.out ?_)
    go_ret
    exact ⟨_, _, rfl, HO.out, (by (repeat (first | (with_reducible refine Below.drew ?_) | (with_reducible refine below_drewN ?_ _) | (with_reducible refine Below.alloc ?_ (by first | omega | (simp; done) | (simp; omega) | (simp at *; omega)) _) | (with_reducible refine Below.setCell ?_ (by first | omega | (simp; done) | (simp; omega) | (simp at *; omega)) _) | (with_reducible exact Below.refl _ _) | (with_reducible assumption) | (with_reducible refine Below.trans ?_ (Below.mono (by assumption) (by first | omega | (simp; done) | (simp; omega) | (simp at *; omega)))))))⟩
  · have e0 : n = 0 := by omega
    subst e0
    clear h0 h1 w1
    go_enter Try.func72, Try.ntmps72
    go_wp2
    go_ret
    exact ⟨none, 0, rfl, ⟨rfl, .inl ⟨rfl, rfl⟩⟩, (by (repeat (first | (with_reducible refine Below.drew ?_) | (with_reducible refine below_drewN ?_ _) | (with_reducible refine Below.alloc ?_ (by first | omega | (simp; done) | (simp; omega) | (simp at *; omega)) _) | (with_reducible refine Below.setCell ?_ (by first | omega | (simp; done) | (simp; omega) | (simp at *; omega)) _) | (with_reducible exact Below.refl _ _) | (with_reducible assumption) | (with_reducible refine Below.trans ?_ (Below.mono (by assumption) (by first | omega | (simp; done) | (simp; omega) | (simp at *; omega)))))))⟩
theorem growL_z (z : Int) (n : Nat) (w : World) (hz : z = (n : Int)) (h1 : n ≤ 100000) :
    Calls Try.prog 72 #[.slice none 0 0, .int .i64 z] w (GrowL w) := by subst hz; exact growL_is n w h1
set_option maxRecDepth 100000 in
set_option maxHeartbeats 4000000 in
theorem concat1_is (LA : List Le) (A : Option Addr) (na ca d : Nat) (w : World) (hna : Hid (na = LA.length)) (na1 : na ≤ 1000) (HA : Hid (∀ w' : World, Below w.heap.size w w' → SlRows leV 3 w' A LA)) (CA : Hid (A = none → na = 0 ∧ ca = 0))
    (c0 : w.cell? ⟨d, 0, none⟩ = some (.slice A na ca)) (hd : d < w.heap.size) :
    Calls Try.prog 66 #[.slice (some ⟨d, 0, none⟩) 1 1] w fun e w' => ∃ (G : Option Addr) (cap : Nat), e = .returned (.slice G na cap) ∧ SlRows leV 3 w' G LA ∧ (∀ ad, G = some ad → w.heap.size ≤ ad.block) ∧ (G = none → cap = 0) ∧ Below w.heap.size w w' := by
  obtain ⟨i0, hi, hz0, hz1, hz2⟩ := info_partsG infoLeK
  have HI := Lib.hid hi
  have HZ0 := Lib.hid hz0
  have HZ1 := Lib.hid hz1
  have HZ2 := Lib.hid hz2
  have HLA := Lib.hid (rowsV_len (f := leV) (n := 3) (fun _ => rfl) LA)
  rw [← hna.out] at HLA
  have w1 : IntKind.i64.wrap (na : Int) = na := IntWalk.i64_in _ (by omega)
  have p1 : (0 : Int) ≤ (na : Int) := by omega
  clear hi hz0 hz1 hz2
  go_enter Try.func66, Try.ntmps66
  go_wp2
  refine wp_loop_rounds 2 ?_
  rw [rounds_succ]
  go_wp2
  rw [rounds_succ]
  go_wp2_with fail
  refine (growL_z _ na _ (by omega) (by omega)).mono ?_
  rintro e x0 ⟨G0, cap0, rfl, hO0, hB0⟩
  have HO0 := Lib.hid hO0
  have d0 := (hB0.cell (p := ⟨d, 0, none⟩) hd).trans c0
  clear hO0
  go_wp2_with fail
  refine wp_loop_rounds 2 ?_
  rw [rounds_succ]
  have HX1 := Lib.hid (srcG (f := leV) (n := 3) (fun _ => rfl) (by decide) (HA.out _ hB0))
  go_wp2_with (at_builtin; refine wpList_append_slG rfl _ _ 23 rfl w.heap.size 64 i0 (.agg #[.int .i64 0, .int .i64 0, .int .i64 0]) 3 24 Try.underlying23 HI.out HZ0.out HZ1.out HZ2.out rfl (by decide) _ 0 [] rfl HO0.out A na ca (rowsV leV LA) rfl CA.out HLA.out HX1.out (rows_one leV_one LA) ?b1 ?c1 hB0.size ?_)
  case b1 => unfold maxLen; omega
  case c1 => omega
  intro v1 x1 hown hgrow hblk
  try simp only [Nat.zero_add, List.nil_append] at hown
  have hB1 : Below w.heap.size w x1 := hB0.grown hgrow hB0.size (fun q hq => (own_blockG HO0.out q hq).1)
  obtain ⟨G1, cap1, hv1, hS1, hGB, hn1, _, _⟩ := SlRows_own (f := leV) (n := 3) (L := LA) (fun _ => rfl) (by rw [← hna.out]; exact hown)
  rw [← hna.out] at hv1
  subst hv1
  have HS1 := Lib.hid hS1
  have HN1 := Lib.hid hn1
  have HGB := Lib.hid hGB
  clear hown hgrow hblk hS1 hn1 hGB d0
  go_wp2_with fail
  rw [rounds_succ]
  go_wp2
  go_ret
  exact ⟨G1, cap1, rfl, HS1.out, HGB.out, HN1.out, hB1⟩
end Go.Proofs.Ytgidmmmdpmophaa
