import Derived.Test.YtojaompfffpofaaGreatZCSIn
import Derived.Test.YtojaompfffpofaaGreatZCSApp
import Derived.Lib.AppendZeros
import Derived.Outline
namespace Go.Proofs.YtojaompfffpofaaGreat
open Go.ChangeShapes Go.WideShapes Go.ChangeAt Go.RowKit
set_option linter.unusedVariables false
set_option linter.unusedSimpArgs false
attribute [local go_sem ↓] Go.wp_at_zero Go.wp_at_succ
theorem wpList_append_sl {P : Program} {ops : Array Oper} {rest : List Oper} {w : World} {o : Oper} {a : Act} {Q : Exit → Act → World → Prop} (hgd : o.guard = none) (s x : Operand) (t : TypeId)
    (ho : o.op = .call { callee := .builtin .append, args := #[s, x], argTypes := #[t, t] })
    (base : Nat) (e : TypeId) (i : TypeInfo) (z : Value) (size bytes : Nat) (ht : P.underlying t = some (.slice e)) (hi : P.info? e = some i) (hz : i.zero = some z)
    (hsize : i.size = size) (hby : i.bytes = bytes) (hzs : z.cells.size = size) (hsz : 0 < size)
    (v : Value) (n : Nat) (xs : List Value) (hs : a.eval s = v) (hown : w.ownsRow base e size v n xs)
    (C : Option Addr) (m c : Nat) (news : List Value) (hx : a.eval x = .slice C m c) (hC : C = none → m = 0 ∧ c = 0) (hl : news.length = m * size) (hnews : ∀ ad, C = some ad → ∀ j u, news[j]? = some u → w.cell? (ad.add j) = some u) (h1 : ∀ u ∈ news, u.oneCell' = true)
    (h63 : n + m ≤ maxLen) (hbytes : (n + m) * bytes ≤ 140737488355328) (hbase : base ≤ w.heap.size)
    (h : ∀ v' w', w'.ownsRow base e size v' (n + m) (xs ++ news) → w.grownBy w' v.ownBlock → (∀ k, v'.ownBlock = some k → v.ownBlock = some k ∨ w.heap.size ≤ k) → wpList P ops Q rest (a.put o.dst v') w') : wpList P ops Q (o :: rest) a w :=
  wpList_plain hgd fun _ hK => oper_append_sl s x t ho base e i z size bytes ht hi hz hsize hby hzs hsz v n xs hs hown C m c news hx hC hl hnews h1 h63 hbytes hbase (fun v' w' a b c => hK _ _ (h v' w' a b c))
theorem infoRg : (Tryz.prog.info? 26).map (fun i => (i.zero, i.size, i.bytes)) = some (some (.agg #[.int .i64 0, .int .i64 0]), 2, 16) := by kernel_rfl
theorem rgV_one : ∀ g, ∀ u ∈ rgV g, u.oneCell' = true := by
  intro g u hu
  simp [rgV] at hu
  rcases hu with rfl | rfl <;> rfl
theorem rg_src {V : World} {A : Option Addr} {L : List Rg} (h : SlRows rgV 2 V A L) : ∀ ad, A = some ad → ∀ j u, (rowsV rgV L)[j]? = some u → V.cell? (ad.add j) = some u := by
  intro ad had j u hj
  rcases h with h | ⟨b, off, rfl, hlt, h⟩
  · rw [h] at hj; simp [rowsV] at hj
  · cases had; exact rowsV_cells (f := rgV) (n := 2) (fun _ => rfl) (by decide) h j u hj
/-- A new row with room, and nothing in it. -/
def GrowP (w : World) (e : Ending) (w' : World) : Prop := ∃ (G : Option Addr) (cap : Nat), e = .returned (.slice G 0 cap) ∧ w'.ownsRow w.heap.size 26 2 (.slice G 0 cap) 0 [] ∧ Below w.heap.size w w'
set_option maxRecDepth 100000 in
set_option maxHeartbeats 1000000 in
theorem grow_is (n : Nat) (w : World) (h1 : n ≤ 100000) :
    Calls Tryz.prog 145 #[.slice none 0 0, .int .i64 n] w (GrowP w) := by
  obtain ⟨i0, hi, hz0, hz1, hz2⟩ := info_partsS infoRg
  have HI := Lib.hid hi
  have HZ0 := Lib.hid hz0
  have HZ1 := Lib.hid hz1
  have HZ2 := Lib.hid hz2
  have w1 : IntKind.i64.wrap (n : Int) = n := IntWalk.i64_in _ (by omega)
  clear hi hz0 hz1 hz2
  by_cases h0 : 0 < n
  · have n0 : (0 : Int) < (n : Int) := by omega
    have n1 : (0 : Int) ≤ (n : Int) := by omega
    have hc := grownCap_le_maxLen w n 0 26 (by unfold maxLen; omega)
    have hg := grownCap_ge w n 0 26
    obtain ⟨G, hG⟩ : ∃ G, Hid (grownCap w n 0 26 = G) := ⟨_, Lib.hid rfl⟩
    have hrun := Lib.run_append_nil_zeros (P := Tryz.prog) w 32 3 32 26 i0 (.agg #[.int .i64 0, .int .i64 0]) .i64 .i64 Tryz.underlying32 Tryz.underlying3 HI.out HZ0.out n h0 (by rw [HZ1.out]; omega) (by omega) (by rw [HZ2.out]; omega)
    rw [hG.out] at hrun hc hg
    obtain ⟨Z, hZ⟩ : ∃ Z : Array Value, Hid (Builtin.zeroCells (Value.agg #[.int .i64 0, .int .i64 0]).cells n ++ Builtin.zeroCells (Value.agg #[.int .i64 0, .int .i64 0]).cells (G - n) = Z) := ⟨_, Lib.hid rfl⟩
    have hs : Z.size = G * 2 := by
      rw [← hZ.out, Array.size_append, size_zeroCells, size_zeroCells]
      show n * 2 + (G - n) * 2 = G * 2
      omega
    rw [hZ.out] at hrun
    have HRUN := Lib.hid hrun
    have HO := Lib.hid (World.ownsRow_made (base := w.heap.size) (e := 26) (size := 2) w Z G (Nat.le_refl _) hc hs).drew
    have HGm := Lib.hid hg
    have g0 : n ≤ G := hg
    have g1 : (0 : Int) ≤ (G : Int) := by omega
    have g2 : 0 ≤ G := by omega
    clear hrun hc hs hg hG hZ
    go_enter Tryz.func145, Tryz.ntmps145
    go_wp2_with (at_builtin; refine Lib.wpList_append_run _ rfl _ _ _ _ rfl _ _ rfl rfl _ _ HRUN.out ?_)
    go_ret
    exact ⟨_, _, rfl, HO.out, (by (repeat (first | (with_reducible refine Below.drew ?_) | (with_reducible refine below_drewN ?_ _) | (with_reducible refine Below.alloc ?_ (by first | omega | (simp; done) | (simp; omega) | (simp at *; omega)) _) | (with_reducible refine Below.setCell ?_ (by first | omega | (simp; done) | (simp; omega) | (simp at *; omega)) _) | (with_reducible exact Below.refl _ _) | (with_reducible assumption) | (with_reducible refine Below.trans ?_ (Below.mono (by assumption) (by first | omega | (simp; done) | (simp; omega) | (simp at *; omega)))))))⟩
  · have e0 : n = 0 := by omega
    subst e0
    clear h0 h1 w1
    go_enter Tryz.func145, Tryz.ntmps145
    go_wp2
    go_ret
    exact ⟨none, 0, rfl, ⟨rfl, .inl ⟨rfl, rfl⟩⟩, (by (repeat (first | (with_reducible refine Below.drew ?_) | (with_reducible refine below_drewN ?_ _) | (with_reducible refine Below.alloc ?_ (by first | omega | (simp; done) | (simp; omega) | (simp at *; omega)) _) | (with_reducible refine Below.setCell ?_ (by first | omega | (simp; done) | (simp; omega) | (simp at *; omega)) _) | (with_reducible exact Below.refl _ _) | (with_reducible assumption) | (with_reducible refine Below.trans ?_ (Below.mono (by assumption) (by first | omega | (simp; done) | (simp; omega) | (simp at *; omega)))))))⟩
theorem grow_z (z : Int) (n : Nat) (w : World) (hz : z = (n : Int)) (h1 : n ≤ 100000) :
    Calls Tryz.prog 145 #[.slice none 0 0, .int .i64 z] w (GrowP w) := by subst hz; exact grow_is n w h1
/-- What slices.Concat of two lists returns. -/
def CatP (LA LB : List Rg) (n : Nat) (w : World) (e : Ending) (w' : World) : Prop := ∃ (G : Option Addr) (cap : Nat), e = .returned (.slice G n cap) ∧ SlRows rgV 2 w' G (LA ++ LB) ∧ (G = none → cap = 0) ∧ Below w.heap.size w w'
set_option maxRecDepth 100000 in
set_option maxHeartbeats 4000000 in
theorem concat_is (LA LB : List Rg) (A B : Option Addr) (na nb ca cb d : Nat) (w : World) (hna : Hid (na = LA.length)) (hnb : Hid (nb = LB.length)) (na1 : na ≤ 1000) (nb1 : nb ≤ 1000)
    (HA : Hid (∀ w' : World, Below w.heap.size w w' → SlRows rgV 2 w' A LA)) (HB : Hid (∀ w' : World, Below w.heap.size w w' → SlRows rgV 2 w' B LB)) (CA : Hid (A = none → na = 0 ∧ ca = 0)) (CB : Hid (B = none → nb = 0 ∧ cb = 0))
    (c0 : w.cell? ⟨d, 0, none⟩ = some (.slice A na ca)) (c1 : w.cell? ⟨d, 1, none⟩ = some (.slice B nb cb)) (hd : d < w.heap.size) :
    Calls Tryz.prog 117 #[.slice (some ⟨d, 0, none⟩) 2 2] w (CatP LA LB (na + nb) w) := by
  obtain ⟨i0, hi, hz0, hz1, hz2⟩ := info_partsS infoRg
  have HI := Lib.hid hi
  have HZ0 := Lib.hid hz0
  have HZ1 := Lib.hid hz1
  have HZ2 := Lib.hid hz2
  have HLA := Lib.hid (rowsV_len (f := rgV) (n := 2) (fun _ => rfl) LA)
  have HLB := Lib.hid (rowsV_len (f := rgV) (n := 2) (fun _ => rfl) LB)
  rw [← hna.out] at HLA
  rw [← hnb.out] at HLB
  have w1 : IntKind.i64.wrap (na : Int) = na := IntWalk.i64_in _ (by omega)
  have w2 : IntKind.i64.wrap ((na : Int) + nb) = (na : Int) + nb := IntWalk.i64_in _ (by omega)
  have p1 : (0 : Int) ≤ (na : Int) := by omega
  have p2 : (0 : Int) ≤ (na : Int) + nb := by omega
  clear hi hz0 hz1 hz2
  go_enter Tryz.func117, Tryz.ntmps117
  go_wp2
  refine wp_loop_rounds 3 ?_
  rw [rounds_succ]
  go_wp2
  rw [rounds_succ]
  go_wp2
  rw [rounds_succ]
  go_wp2_with fail
  refine (grow_z _ (na + nb) _ (by omega) (by omega)).mono ?_
  rintro e x0 ⟨G0, cap0, rfl, hO0, hB0⟩
  have HO0 := Lib.hid hO0
  have d0 := (hB0.cell (p := ⟨d, 0, none⟩) hd).trans c0
  have d0' := (hB0.cell (p := ⟨d, 1, none⟩) hd).trans c1
  clear hO0
  go_wp2_with fail
  refine wp_loop_rounds 3 ?_
  rw [rounds_succ]
  have HX1 := Lib.hid (rg_src (HA.out _ hB0))
  go_wp2_with (at_builtin; refine wpList_append_sl rfl _ _ 32 rfl w.heap.size 26 i0 (.agg #[.int .i64 0, .int .i64 0]) 2 16 Tryz.underlying32 HI.out HZ0.out HZ1.out HZ2.out rfl (by decide) _ 0 [] rfl HO0.out A na ca (rowsV rgV LA) rfl CA.out HLA.out HX1.out (rows_one rgV_one LA) ?b1 ?c1 hB0.size ?_)
  case b1 => unfold maxLen; omega
  case c1 => omega
  intro v1 x1 hown hgrow hblk
  try simp only [Nat.zero_add, List.nil_append] at hown
  have HO1 := Lib.hid hown
  have hB1 : Below w.heap.size w x1 := hB0.grown hgrow hB0.size (fun q hq => (own_block HO0.out q hq).1)
  have d1 := (hB1.cell (p := ⟨d, 1, none⟩) hd).trans c1
  clear hown hgrow hblk
  obtain ⟨G1, cap1, hv1, _, _, _, _, _⟩ := SlRows_own (f := rgV) (n := 2) (L := LA) (fun _ => rfl) (by rw [← hna.out]; exact HO1.out)
  rw [← hna.out] at hv1
  subst hv1
  go_wp2_with fail
  rw [rounds_succ]
  have HX2 := Lib.hid (rg_src (HB.out _ hB1))
  go_wp2_with (at_builtin; refine wpList_append_sl rfl _ _ 32 rfl w.heap.size 26 i0 (.agg #[.int .i64 0, .int .i64 0]) 2 16 Tryz.underlying32 HI.out HZ0.out HZ1.out HZ2.out rfl (by decide) _ na (rowsV rgV LA) rfl HO1.out B nb cb (rowsV rgV LB) rfl CB.out HLB.out HX2.out (rows_one rgV_one LB) ?b2 ?c2 hB1.size ?_)
  case b2 => unfold maxLen; omega
  case c2 => omega
  intro v2 x2 hown hgrow hblk
  try simp only [Nat.zero_add, List.nil_append] at hown
  have HO2 := Lib.hid hown
  have hB2 : Below w.heap.size w x2 := hB1.grown hgrow hB1.size (fun q hq => (own_block HO1.out q hq).1)
  have d2 := (hB2.cell (p := ⟨d, 1, none⟩) hd).trans c1
  clear hown hgrow hblk
  have hown2 : x2.ownsRow w.heap.size 26 2 v2 (LA ++ LB).length (rowsV rgV (LA ++ LB)) := by rw [rowsV_app, List.length_append, ← hna.out, ← hnb.out]; exact HO2.out
  obtain ⟨G2, cap2, hv2, hS2, _, hn2, _, _⟩ := SlRows_own (f := rgV) (n := 2) (fun _ => rfl) hown2
  rw [List.length_append, ← hna.out, ← hnb.out] at hv2
  subst hv2
  have HS2 := Lib.hid hS2
  have HN2 := Lib.hid hn2
  clear hown2 hS2 hn2
  go_wp2_with fail
  rw [rounds_succ]
  go_wp2
  go_ret
  exact ⟨G2, cap2, rfl, HS2.out, HN2.out, hB2⟩
end Go.Proofs.YtojaompfffpofaaGreat
