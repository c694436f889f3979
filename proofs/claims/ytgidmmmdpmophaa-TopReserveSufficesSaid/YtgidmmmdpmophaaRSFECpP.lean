import Derived.Test.YtgidmmmdpmophaaRSFECpR
import Derived.Test.YtgidmmmdpmophaaRSFEOx
import Derived.Test.YtgidmmmdpmophaaRSFTSet
import Derived.Test.YtgidmmmdpmophaaRSFLastReg
import Derived.Outline
namespace Go.Proofs.Ytgidmmmdpmophaa
open Go.ChangeShapes Go.WideShapes Go.ChangeAt Go.RowKit
set_option linter.unusedVariables false
set_option linter.unusedSimpArgs false
attribute [local go_sem ↓] Go.wp_at_zero Go.wp_at_succ
theorem infoGaC : (Try.prog.info? 92).map (fun i => (i.zero, i.size, i.bytes)) = some (some (.agg #[.int .i64 0, .int .i64 0]), 2, 16) := by kernel_rfl
theorem copyGa_is (L : List Ga) (A : Option Addr) (cap n : Nat) (w : World) (hn : Hid (n = L.length)) (hl : n ≤ 1000000) (hS : SlRows gaV 2 w A L) (hC : Hid (A = none → n = 0 ∧ cap = 0)) :
    Calls Try.prog 31 #[.slice A n cap] w fun e w' => ∃ (G : Option Addr) (cg : Nat), e = .returned (.slice G n cg) ∧ SlRows gaV 2 w' G L ∧ (∀ ad, G = some ad → w.heap.size ≤ ad.block) ∧ (G = none → cg = 0) ∧ Below w.heap.size w w' := by
  obtain ⟨i0, hi, hz0, hz1, hz2⟩ := info_partsG infoGaC
  have HI := Lib.hid hi
  have HZ0 := Lib.hid hz0
  have HZ1 := Lib.hid hz1
  have HZ2 := Lib.hid hz2
  have HL := Lib.hid (rowsV_len (f := gaV) (n := 2) (fun _ => rfl) L)
  rw [← hn.out] at HL
  have HO := Lib.hid (World.ownsRow_made (base := w.heap.size) (e := 92) (size := 2) w #[] 0 (Nat.le_refl _) (by simp) (by simp))
  have HX := Lib.hid (srcG (f := gaV) (n := 2) (fun _ => rfl) (by decide) (hS.below (Below.alloc (Below.refl _ w) (Nat.le_refl _) (.cells #[] 92))))
  clear hi hz0 hz1 hz2 hS
  go_enter Try.func31, Try.ntmps31
  go_wp2_with (at_builtin; refine wpList_append_slG rfl _ _ 22 rfl w.heap.size 92 i0 (.agg #[.int .i64 0, .int .i64 0]) 2 16 Try.underlying22 HI.out HZ0.out HZ1.out HZ2.out rfl (by decide) _ 0 [] rfl HO.out A n cap (rowsV gaV L) rfl hC.out HL.out HX.out (rows_one gaV_one L) ?c1 ?c2 ?c3 ?_)
  case c1 => unfold maxLen; omega
  case c2 => omega
  case c3 => simp
  intro v' w1 hown hgrow hblk
  have hB : Below w.heap.size w w1 := ((Below.refl w.heap.size w).alloc (Nat.le_refl _) _).grown hgrow (by simp) (by intro k hk; simp [Value.ownBlock] at hk; omega)
  (try simp only [Nat.zero_add, List.nil_append] at hown)
  obtain ⟨G, cg, hv, hS, hGB, hN, _, _⟩ := SlRows_own (f := gaV) (n := 2) (L := L) (fun _ => rfl) (by rw [← hn.out]; exact hown)
  rw [← hn.out] at hv
  subst hv
  have HS := Lib.hid hS
  have HGB := Lib.hid hGB
  have HN := Lib.hid hN
  clear hown hgrow hblk hS hN hGB
  go_wp2
  go_ret
  exact ⟨G, cg, rfl, HS.out, HGB.out, HN.out, hB⟩
theorem infoLeC : (Try.prog.info? 64).map (fun i => (i.zero, i.size, i.bytes)) = some (some (.agg #[.int .i64 0, .int .i64 0, .int .i64 0]), 3, 24) := by kernel_rfl
theorem copyLe_is (L : List Le) (A : Option Addr) (cap n : Nat) (w : World) (hn : Hid (n = L.length)) (hl : n ≤ 1000000) (hS : SlRows leV 3 w A L) (hC : Hid (A = none → n = 0 ∧ cap = 0)) :
    Calls Try.prog 32 #[.slice A n cap] w fun e w' => ∃ (G : Option Addr) (cg : Nat), e = .returned (.slice G n cg) ∧ SlRows leV 3 w' G L ∧ (∀ ad, G = some ad → w.heap.size ≤ ad.block) ∧ (G = none → cg = 0) ∧ Below w.heap.size w w' := by
  obtain ⟨i0, hi, hz0, hz1, hz2⟩ := info_partsG infoLeC
  have HI := Lib.hid hi
  have HZ0 := Lib.hid hz0
  have HZ1 := Lib.hid hz1
  have HZ2 := Lib.hid hz2
  have HL := Lib.hid (rowsV_len (f := leV) (n := 3) (fun _ => rfl) L)
  rw [← hn.out] at HL
  have HO := Lib.hid (World.ownsRow_made (base := w.heap.size) (e := 64) (size := 3) w #[] 0 (Nat.le_refl _) (by simp) (by simp))
  have HX := Lib.hid (srcG (f := leV) (n := 3) (fun _ => rfl) (by decide) (hS.below (Below.alloc (Below.refl _ w) (Nat.le_refl _) (.cells #[] 64))))
  clear hi hz0 hz1 hz2 hS
  go_enter Try.func32, Try.ntmps32
  go_wp2_with (at_builtin; refine wpList_append_slG rfl _ _ 23 rfl w.heap.size 64 i0 (.agg #[.int .i64 0, .int .i64 0, .int .i64 0]) 3 24 Try.underlying23 HI.out HZ0.out HZ1.out HZ2.out rfl (by decide) _ 0 [] rfl HO.out A n cap (rowsV leV L) rfl hC.out HL.out HX.out (rows_one leV_one L) ?c1 ?c2 ?c3 ?_)
  case c1 => unfold maxLen; omega
  case c2 => omega
  case c3 => simp
  intro v' w1 hown hgrow hblk
  have hB : Below w.heap.size w w1 := ((Below.refl w.heap.size w).alloc (Nat.le_refl _) _).grown hgrow (by simp) (by intro k hk; simp [Value.ownBlock] at hk; omega)
  (try simp only [Nat.zero_add, List.nil_append] at hown)
  obtain ⟨G, cg, hv, hS, hGB, hN, _, _⟩ := SlRows_own (f := leV) (n := 3) (L := L) (fun _ => rfl) (by rw [← hn.out]; exact hown)
  rw [← hn.out] at hv
  subst hv
  have HS := Lib.hid hS
  have HGB := Lib.hid hGB
  have HN := Lib.hid hN
  clear hown hgrow hblk hS hN hGB
  go_wp2
  go_ret
  exact ⟨G, cg, rfl, HS.out, HGB.out, HN.out, hB⟩
/-- A plan came back whose lists hold the same. -/
def CopiedPlan (nm : Value) (s : Int) (G : List Ga) (L : List Le) (w : World) (e : Ending) (w' : World) : Prop := ∃ A cap B cap', e = .returned (.agg #[nm, .int .i64 s, .slice A G.length cap, .slice B L.length cap']) ∧ SlRows gaV 2 w' A G ∧ SlRows leV 3 w' B L ∧ (A = none → cap = 0) ∧ (B = none → cap' = 0) ∧ Below w.heap.size w w'
set_option maxRecDepth 100000 in
set_option maxHeartbeats 2000000 in
theorem copyPlan_any (bs : ByteArray) (s : Int) (G : List Ga) (L : List Le) (A B : Option Addr) (cap cap' : Nat) (w : World) (hl : G.length ≤ 1000000) (hn : L.length ≤ 1000000) (hA : A = none → G.length = 0 ∧ cap = 0) (hB : B = none → L.length = 0 ∧ cap' = 0) (hG : SlRows gaV 2 w A G) (hL : SlRows leV 3 w B L) :
    Calls Try.prog 11 #[.agg #[.string bs, .int .i64 s, .slice A G.length cap, .slice B L.length cap']] w (CopiedPlan (.string bs) s G L w) := by
  have HG := Lib.hid hG
  have HL := Lib.hid hL
  have HNA := Lib.hid hA
  have HNB := Lib.hid hB
  clear hG hL hA hB
  go_enter Try.func11, Try.ntmps11
  go_upto_region 1 with (fail)
  have h0 : ((w.alloc (.cells #[.string bs, .int .i64 s, .slice A G.length cap, .slice B L.length cap'] 25)).alloc (.cells #[.string { data := #[] }, .int .i64 0, .slice none 0 0, .slice none 0 0] 25)).cell? ⟨w.heap.size, 0, none⟩ = some (.string bs) := by simp [go_sem, World.cell?_alloc_past]
  have h1 : ((w.alloc (.cells #[.string bs, .int .i64 s, .slice A G.length cap, .slice B L.length cap'] 25)).alloc (.cells #[.string { data := #[] }, .int .i64 0, .slice none 0 0, .slice none 0 0] 25)).cell? ⟨w.heap.size, 1, none⟩ = some (.int .i64 s) := by simp [go_sem, World.cell?_alloc_past]
  have h2 : ((w.alloc (.cells #[.string bs, .int .i64 s, .slice A G.length cap, .slice B L.length cap'] 25)).alloc (.cells #[.string { data := #[] }, .int .i64 0, .slice none 0 0, .slice none 0 0] 25)).cell? ⟨w.heap.size, 2, none⟩ = some (.slice A G.length cap) := by simp [go_sem, World.cell?_alloc_past]
  have h3 : ((w.alloc (.cells #[.string bs, .int .i64 s, .slice A G.length cap, .slice B L.length cap'] 25)).alloc (.cells #[.string { data := #[] }, .int .i64 0, .slice none 0 0, .slice none 0 0] 25)).cell? ⟨w.heap.size, 3, none⟩ = some (.slice B L.length cap') := by simp [go_sem, World.cell?_alloc_past]
  have hr : ∀ i, i < 4 → ∃ u, ((w.alloc (.cells #[.string bs, .int .i64 s, .slice A G.length cap, .slice B L.length cap'] 25)).alloc (.cells #[.string { data := #[] }, .int .i64 0, .slice none 0 0, .slice none 0 0] 25)).cell? ⟨w.heap.size + 1, i, none⟩ = some u := fun i hi => by
    match i, hi with
    | 0, _ => exact ⟨_, by simp [go_sem, World.cell?_alloc_past]; rfl⟩
    | 1, _ => exact ⟨_, by simp [go_sem, World.cell?_alloc_past]; rfl⟩
    | 2, _ => exact ⟨_, by simp [go_sem, World.cell?_alloc_past]; rfl⟩
    | 3, _ => exact ⟨_, by simp [go_sem, World.cell?_alloc_past]; rfl⟩
  have f0 : ∀ j, ((w.alloc (.cells #[.string bs, .int .i64 s, .slice A G.length cap, .slice B L.length cap'] 25)).alloc (.cells #[.string { data := #[] }, .int .i64 0, .slice none 0 0, .slice none 0 0] 25)).frozen? ⟨w.heap.size, j, none⟩ = false := fun j => by simp [go_sem]
  have f1 : ∀ j, ((w.alloc (.cells #[.string bs, .int .i64 s, .slice A G.length cap, .slice B L.length cap'] 25)).alloc (.cells #[.string { data := #[] }, .int .i64 0, .slice none 0 0, .slice none 0 0] 25)).frozen? ⟨w.heap.size + 1, j, none⟩ = false := fun j => by simp [go_sem]
  have lv : w.heap.size + 1 < ((w.alloc (.cells #[.string bs, .int .i64 s, .slice A G.length cap, .slice B L.length cap'] 25)).alloc (.cells #[.string { data := #[] }, .int .i64 0, .slice none 0 0, .slice none 0 0] 25)).heap.size := by simp
  have hBv : Below w.heap.size w ((w.alloc (.cells #[.string bs, .int .i64 s, .slice A G.length cap, .slice B L.length cap'] 25)).alloc (.cells #[.string { data := #[] }, .int .i64 0, .slice none 0 0, .slice none 0 0] 25)) := (by (repeat (first | (with_reducible refine Below.drew ?_) | (with_reducible refine below_drewN ?_ _) | (with_reducible refine Below.alloc ?_ (by first | omega | (simp; done) | (simp; omega) | (simp at *; omega)) _) | (with_reducible refine Below.setCell ?_ (by first | omega | (simp; done) | (simp; omega) | (simp at *; omega)) _) | (with_reducible exact Below.refl _ _) | (with_reducible assumption) | (with_reducible refine Below.trans ?_ (Below.mono (by assumption) (by first | omega | (simp; done) | (simp; omega) | (simp at *; omega)))))))
  generalize hv : ((w.alloc (.cells #[.string bs, .int .i64 s, .slice A G.length cap, .slice B L.length cap'] 25)).alloc (.cells #[.string { data := #[] }, .int .i64 0, .slice none 0 0, .slice none 0 0] 25)) = v at *
  clear hv
  have lv0 : w.heap.size < v.heap.size := by omega
  refine wp_region_Z (S := (fun w' => w'.cell? ⟨w.heap.size, 3, none⟩ = some (.slice B L.length cap'))) 9 (by kernel_rfl) (by kernel_rfl) (by kernel_rfl) (by exact ((Below.refl v.heap.size v).drew.cell (p := ⟨w.heap.size, 3, none⟩) lv0).trans h3) (fun hHeld => ?_)
  refine wpAnyZ_take (i := 0) (oi := ⟨some 3, _, _, _, _, _⟩) (v := ?_) (by kernel_rfl) (by kernel_rfl) rfl rfl (by kernel_rfl) (by kernel_rfl) (by kernel_rfl) (fun _ _ _ h => h) (Or.inl ⟨by kernel_rfl, ?_⟩) (by assumption) ?_
  rotate_left
  · (intro w hSw; (try dsimp only at hSw); go_simp; all_goals with_reducible rfl)
  try simp only [Act.put, List.setIfInBounds_toArray, List.set_cons_zero, List.set_cons_succ]
  refine wpAnyZ_take (i := 3) (oi := ⟨some 6, _, _, _, _, _⟩) (v := ?_) (by kernel_rfl) (by kernel_rfl) rfl rfl (by kernel_rfl) (by kernel_rfl) (by kernel_rfl) (fun _ _ _ h => h) (Or.inl ⟨by kernel_rfl, ?_⟩) (by assumption) ?_
  rotate_left
  · (intro w hSw; (try dsimp only at hSw); go_simp; all_goals with_reducible rfl)
  try simp only [Act.put, List.setIfInBounds_toArray, List.set_cons_zero, List.set_cons_succ]
  refine wpAnyZ_take (i := 4) (oi := ⟨some 7, _, _, _, _, _⟩) (v := ?_) (by kernel_rfl) (by kernel_rfl) rfl rfl (by kernel_rfl) (by kernel_rfl) (by kernel_rfl) (fun _ _ _ h => h) (Or.inl ⟨by kernel_rfl, ?_⟩) (by assumption) ?_
  rotate_left
  · (intro w hSw; (try dsimp only at hSw); go_simp; all_goals with_reducible rfl)
  try simp only [Act.put, List.setIfInBounds_toArray, List.set_cons_zero, List.set_cons_succ]
  have hB0 : Below v.heap.size v v.drew := (Below.refl v.heap.size v).drew
  generalize hdr : v.drew = u0 at *
  clear hdr
  replace h0 := (hB0.cell (p := ⟨w.heap.size, 0, none⟩) lv0).trans h0
  replace h1 := (hB0.cell (p := ⟨w.heap.size, 1, none⟩) lv0).trans h1
  replace h2 := (hB0.cell (p := ⟨w.heap.size, 2, none⟩) lv0).trans h2
  replace h3 := (hB0.cell (p := ⟨w.heap.size, 3, none⟩) lv0).trans h3
  replace f0 : ∀ j, u0.frozen? ⟨w.heap.size, j, none⟩ = false := fun j => (hB0.frozen (p := ⟨w.heap.size, j, none⟩) lv0).trans (f0 j)
  replace f1 : ∀ j, u0.frozen? ⟨w.heap.size + 1, j, none⟩ = false := fun j => (hB0.frozen (p := ⟨w.heap.size + 1, j, none⟩) lv).trans (f1 j)
  replace hr : ∀ i, i < 4 → ∃ u, u0.cell? ⟨w.heap.size + 1, i, none⟩ = some u := fun i hi => by obtain ⟨u, hu⟩ := hr i hi; exact ⟨u, (hB0.cell (p := ⟨w.heap.size + 1, i, none⟩) lv).trans hu⟩
  have hBu : Below w.heap.size w u0 := hBv.trans (hB0.mono hBv.size)
  have zu := hB0.size
  have lu0 : w.heap.size < u0.heap.size := by omega
  have lu1 : w.heap.size + 1 < u0.heap.size := by omega
  refine wpAnyZ_call (q := 1) (by kernel_rfl) rfl rfl (fun K hK => ?_)
  go_simp
  go_wp2_with fail
  refine hK.out _ _ (by exact h3) (fun hHeld => ?_)
  clear hK K
  try simp only [Act.put, List.setIfInBounds_toArray, List.set_cons_zero, List.set_cons_succ]
  refine wpAnyZ_call (q := 2) (by kernel_rfl) rfl rfl (fun K hK => ?_)
  go_simp
  refine (copyGa_is G A cap G.length _ (Lib.hid rfl) hl (HG.out.below hBu) HNA).mono ?_
  rintro e w1 ⟨A2, cap2, rfl, hS2, hN2, hq2, hb1⟩
  replace h0 := (hb1.cell (p := ⟨w.heap.size, 0, none⟩) lu0).trans h0
  replace h1 := (hb1.cell (p := ⟨w.heap.size, 1, none⟩) lu0).trans h1
  replace h2 := (hb1.cell (p := ⟨w.heap.size, 2, none⟩) lu0).trans h2
  replace h3 := (hb1.cell (p := ⟨w.heap.size, 3, none⟩) lu0).trans h3
  replace f0 : ∀ j, w1.frozen? ⟨w.heap.size, j, none⟩ = false := fun j => (hb1.frozen (p := ⟨w.heap.size, j, none⟩) lu0).trans (f0 j)
  replace f1 : ∀ j, w1.frozen? ⟨w.heap.size + 1, j, none⟩ = false := fun j => (hb1.frozen (p := ⟨w.heap.size + 1, j, none⟩) lu1).trans (f1 j)
  replace hr : ∀ i, i < 4 → ∃ u, w1.cell? ⟨w.heap.size + 1, i, none⟩ = some u := fun i hi => by obtain ⟨u, hu⟩ := hr i hi; exact ⟨u, (hb1.cell (p := ⟨w.heap.size + 1, i, none⟩) lu1).trans hu⟩
  have z1 := hb1.size
  have HS2 := Lib.hid hS2
  have HN2 : Hid (∀ ad, A2 = some ad → w.heap.size + 2 ≤ ad.block) := fun ad h => Nat.le_trans (by omega) (hN2 ad h)
  have hB1 : Below w.heap.size w w1 := hBu.trans (hb1.mono hBu.size)
  have l10 : w.heap.size < w1.heap.size := by omega
  have l11 : w.heap.size + 1 < w1.heap.size := by omega
  clear hb1 hS2 hN2
  have HQ2 := Lib.hid hq2
  clear hq2
  go_wp2_with fail
  refine hK.out _ _ (by exact h3) (fun hHeld => ?_)
  clear hK K
  try simp only [Act.put, List.setIfInBounds_toArray, List.set_cons_zero, List.set_cons_succ]
  refine wpAnyZ_take (i := 6) (oi := ⟨some 9, _, _, _, _, _⟩) (v := ?_) (by kernel_rfl) (by kernel_rfl) rfl rfl (by kernel_rfl) (by kernel_rfl) (by kernel_rfl) (fun _ _ _ h => h) (Or.inl ⟨by kernel_rfl, ?_⟩) (by assumption) ?_
  rotate_left
  · (intro w hSw; (try dsimp only at hSw); go_simp; all_goals with_reducible rfl)
  try simp only [Act.put, List.setIfInBounds_toArray, List.set_cons_zero, List.set_cons_succ]
  refine wpAnyZ_call (q := 5) (by kernel_rfl) rfl rfl (fun K hK => ?_)
  go_simp
  refine (copyLe_is L B cap' L.length _ (Lib.hid rfl) hn (HL.out.below hB1) HNB).mono ?_
  rintro e w2 ⟨B2, cap3, rfl, hS3, hN3, hq3, hb2⟩
  replace h0 := (hb2.cell (p := ⟨w.heap.size, 0, none⟩) l10).trans h0
  replace h1 := (hb2.cell (p := ⟨w.heap.size, 1, none⟩) l10).trans h1
  replace h2 := (hb2.cell (p := ⟨w.heap.size, 2, none⟩) l10).trans h2
  replace h3 := (hb2.cell (p := ⟨w.heap.size, 3, none⟩) l10).trans h3
  replace f0 : ∀ j, w2.frozen? ⟨w.heap.size, j, none⟩ = false := fun j => (hb2.frozen (p := ⟨w.heap.size, j, none⟩) l10).trans (f0 j)
  replace f1 : ∀ j, w2.frozen? ⟨w.heap.size + 1, j, none⟩ = false := fun j => (hb2.frozen (p := ⟨w.heap.size + 1, j, none⟩) l11).trans (f1 j)
  replace hr : ∀ i, i < 4 → ∃ u, w2.cell? ⟨w.heap.size + 1, i, none⟩ = some u := fun i hi => by obtain ⟨u, hu⟩ := hr i hi; exact ⟨u, (hb2.cell (p := ⟨w.heap.size + 1, i, none⟩) l11).trans hu⟩
  have z2 := hb2.size
  have HS3 := Lib.hid hS3
  have HN3 : Hid (∀ ad, B2 = some ad → w.heap.size + 2 ≤ ad.block) := fun ad h => Nat.le_trans (by omega) (hN3 ad h)
  have HS2' := Lib.hid (HS2.out.below hb2)
  have hB2 : Below w.heap.size w w2 := hB1.trans (hb2.mono hB1.size)
  have l20 : w.heap.size < w2.heap.size := by omega
  clear hb2 hS3 hN3 HS2
  have HQ3 := Lib.hid hq3
  clear hq3
  have hf2 := f0 2
  have hf3 := f0 3
  go_wp2_with fail
  refine hK.out _ _ (by exact h3) (fun hHeld => ?_)
  clear hK K
  try simp only [Act.put, List.setIfInBounds_toArray, List.set_cons_zero, List.set_cons_succ]
  refine wpAnyZ_call (q := 7) (by kernel_rfl) rfl rfl (fun K hK => ?_)
  go_simp
  go_wp2_with fail
  refine hK.out _ _ (by exact (cell_off (Or.inr (by decide))).trans h3) (fun hHeld => ?_)
  clear hK K
  try simp only [Act.put, List.setIfInBounds_toArray, List.set_cons_zero, List.set_cons_succ]
  have g3 : (w2.setCell ⟨w.heap.size, 2, none⟩ (.slice A2 G.length cap2)).cell? ⟨w.heap.size, 3, none⟩ = some (.slice B L.length cap') := (cell_off (Or.inr (by decide))).trans h3
  refine wpAnyZ_take (i := 8) (oi := ⟨some 10, _, _, _, _, _⟩) (v := ?_) (by kernel_rfl) (by kernel_rfl) rfl rfl (by kernel_rfl) (by kernel_rfl) (by kernel_rfl) (fun _ _ _ h => h) (Or.inl ⟨by kernel_rfl, ?_⟩) (by assumption) ?_
  rotate_left
  · (intro w hSw; (try dsimp only at hSw); go_simp; all_goals with_reducible rfl)
  try simp only [Act.put, List.setIfInBounds_toArray, List.set_cons_zero, List.set_cons_succ]
  refine wpAnyZ_last (by kernel_rfl) rfl (fun K hK => ?_)
  go_simp
  go_wp2_with fail
  refine hK.out _ _ ?_
  clear hK K
  try simp only [Act.put, List.setIfInBounds_toArray, List.set_cons_zero, List.set_cons_succ]
  have k0 : ((w2.setCell ⟨w.heap.size, 2, none⟩ (.slice A2 G.length cap2)).setCell ⟨w.heap.size, 3, none⟩ (.slice B2 L.length cap3)).cell? ⟨w.heap.size, 0, none⟩ = some (.string bs) := (cell_off (Or.inr (by decide))).trans ((cell_off (Or.inr (by decide))).trans h0)
  have k1 : ((w2.setCell ⟨w.heap.size, 2, none⟩ (.slice A2 G.length cap2)).setCell ⟨w.heap.size, 3, none⟩ (.slice B2 L.length cap3)).cell? ⟨w.heap.size, 1, none⟩ = some (.int .i64 s) := (cell_off (Or.inr (by decide))).trans ((cell_off (Or.inr (by decide))).trans h1)
  have k2 : ((w2.setCell ⟨w.heap.size, 2, none⟩ (.slice A2 G.length cap2)).setCell ⟨w.heap.size, 3, none⟩ (.slice B2 L.length cap3)).cell? ⟨w.heap.size, 2, none⟩ = some (.slice A2 G.length cap2) := (cell_off (Or.inr (by decide))).trans (cell_same h2)
  have k3 : ((w2.setCell ⟨w.heap.size, 2, none⟩ (.slice A2 G.length cap2)).setCell ⟨w.heap.size, 3, none⟩ (.slice B2 L.length cap3)).cell? ⟨w.heap.size, 3, none⟩ = some (.slice B2 L.length cap3) := cell_same g3
  have hq3 : ∀ i, i < 4 → ∃ u, ((w2.setCell ⟨w.heap.size, 2, none⟩ (.slice A2 G.length cap2)).setCell ⟨w.heap.size, 3, none⟩ (.slice B2 L.length cap3)).cell? ⟨w.heap.size + 1, i, none⟩ = some u := fun i hi => by obtain ⟨u, hu⟩ := hr i hi; exact ⟨u, (cell_off (Or.inl (by omega))).trans ((cell_off (Or.inl (by omega))).trans hu)⟩
  have f3 : ∀ j, ((w2.setCell ⟨w.heap.size, 2, none⟩ (.slice A2 G.length cap2)).setCell ⟨w.heap.size, 3, none⟩ (.slice B2 L.length cap3)).frozen? ⟨w.heap.size + 1, j, none⟩ = false := fun j => by simp [go_sem, f1]
  have HG3 := Lib.hid (sl_setE (i := 3) (v := .slice B2 L.length cap3) (sl_setE (i := 2) (v := .slice A2 G.length cap2) HS2'.out HN2.out (show w.heap.size < w.heap.size + 2 by omega)) HN2.out (show w.heap.size < w.heap.size + 2 by omega))
  have HL3 := Lib.hid (sl_setE (i := 3) (v := .slice B2 L.length cap3) (sl_setE (i := 2) (v := .slice A2 G.length cap2) HS3.out HN3.out (show w.heap.size < w.heap.size + 2 by omega)) HN3.out (show w.heap.size < w.heap.size + 2 by omega))
  have hB3 : Below w.heap.size w ((w2.setCell ⟨w.heap.size, 2, none⟩ (.slice A2 G.length cap2)).setCell ⟨w.heap.size, 3, none⟩ (.slice B2 L.length cap3)) := (hB2.setCell (p := ⟨w.heap.size, 2, none⟩) (Nat.le_refl _) _).setCell (p := ⟨w.heap.size, 3, none⟩) (Nat.le_refl _) _
  generalize hw3 : ((w2.setCell ⟨w.heap.size, 2, none⟩ (.slice A2 G.length cap2)).setCell ⟨w.heap.size, 3, none⟩ (.slice B2 L.length cap3)) = w3 at *
  clear hw3 g3 h0 h1 h2 h3 f0 f1 hr hf2 hf3 HS2' HS3 hB0 hBu hB1 hB2 hBv
  obtain ⟨⟨r0, hr0⟩, ⟨r1, hr1⟩, ⟨r2, hr2⟩, ⟨r3, hr3⟩⟩ := And.intro (hq3 0 (by omega)) (And.intro (hq3 1 (by omega)) (And.intro (hq3 2 (by omega)) (hq3 3 (by omega))))
  have ff0 := f3 0
  have ff1 := f3 1
  have ff2 := f3 2
  have ff3 := f3 3
  have hset := set4_is (X := w3) (b := w.heap.size + 1) (.string bs) (.int .i64 s) (.slice A2 G.length cap2) (.slice B2 L.length cap3) hq3 f3
  unfold set4 at hset
  have HSET := Lib.hid hset
  clear hset
  have HG4 := Lib.hid (sl_setE (i := 3) (v := .slice B2 L.length cap3) (sl_setE (i := 2) (v := .slice A2 G.length cap2) (sl_setE (i := 1) (v := .int .i64 s) (sl_setE (i := 0) (v := .string bs) HG3.out HN2.out (show w.heap.size + 1 < w.heap.size + 2 by omega)) HN2.out (show w.heap.size + 1 < w.heap.size + 2 by omega)) HN2.out (show w.heap.size + 1 < w.heap.size + 2 by omega)) HN2.out (show w.heap.size + 1 < w.heap.size + 2 by omega))
  have HL4 := Lib.hid (sl_setE (i := 3) (v := .slice B2 L.length cap3) (sl_setE (i := 2) (v := .slice A2 G.length cap2) (sl_setE (i := 1) (v := .int .i64 s) (sl_setE (i := 0) (v := .string bs) HL3.out HN3.out (show w.heap.size + 1 < w.heap.size + 2 by omega)) HN3.out (show w.heap.size + 1 < w.heap.size + 2 by omega)) HN3.out (show w.heap.size + 1 < w.heap.size + 2 by omega)) HN3.out (show w.heap.size + 1 < w.heap.size + 2 by omega))
  have HB4 := Lib.hid (set4_below (u0 := .string bs) (u1 := .int .i64 s) (u2 := .slice A2 G.length cap2) (u3 := .slice B2 L.length cap3) (b := w.heap.size + 1) hB3 (by omega))
  have HB5 := HB4.out
  unfold set4 at HB5
  have HB6 := Lib.hid HB5
  clear HB4 HB5
  obtain ⟨e0, e1, e2, e3, _⟩ := HSET.out
  go_wp2 
  refine bodyPost_ret (v := .agg #[.string bs, .int .i64 s, .slice A2 G.length cap2, .slice B2 L.length cap3]) (by simp [results, Try.results11, go_sem, *]) rfl ?_
  exact ⟨A2, cap2, B2, cap3, rfl, HG4.out, HL4.out, HQ2.out, HQ3.out, HB6.out⟩
/-- A copy of a plan. -/
def CopyP (nm : ByteArray) (s : Int) (G : List Ga) (D : List Le) (gn dn : Nat) (w : World) (e : Ending) (w' : World) : Prop := ∃ (A : Option Addr) (ca : Nat) (B : Option Addr) (cb : Nat), e = .returned (.agg #[.string nm, .int .i64 s, .slice A gn ca, .slice B dn cb]) ∧ SlRows gaV 2 w' A G ∧ SlRows leV 3 w' B D ∧ (A = none → ca = 0) ∧ (B = none → cb = 0) ∧ Below w.heap.size w w'
theorem copyP_is (nm : ByteArray) (s : Int) (G : List Ga) (D : List Le) (A B : Option Addr) (gn gc dn dc : Nat) (w : World) (hgn : Hid (gn = G.length)) (hdn : Hid (dn = D.length)) (hl : gn ≤ 1000000) (hn : dn ≤ 1000000) (hG : Hid (SlRows gaV 2 w A G)) (hD : Hid (SlRows leV 3 w B D)) (hA : Hid (A = none → gn = 0 ∧ gc = 0)) (hB : Hid (B = none → dn = 0 ∧ dc = 0)) :
    Calls Try.prog 11 #[.agg #[.string nm, .int .i64 s, .slice A gn gc, .slice B dn dc]] w (CopyP nm s G D gn dn w) := by
  obtain rfl := hgn.out
  obtain rfl := hdn.out
  exact copyPlan_any nm s G D A B gc dc w hl hn hA.out hB.out hG.out hD.out
end Go.Proofs.Ytgidmmmdpmophaa
