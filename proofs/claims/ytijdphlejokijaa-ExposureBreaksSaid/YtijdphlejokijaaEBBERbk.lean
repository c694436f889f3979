import Derived.Test.YtijdphlejokijaaEBBEKnd
import Derived.Test.YtijdphlejokijaaEBBEEnds
import Derived.Outline
namespace Go.Proofs.Ytijdphlejokijaa
open Go.ChangeShapes Go.WideShapes Go.ChangeAt Go.RowKit
set_option linter.unusedVariables false
set_option linter.unusedSimpArgs false
attribute [local go_sem ↓] Go.wp_at_zero Go.wp_at_succ

theorem blkF_belowM {u u' : World} {B b N : Nat} {vs : List Value} (h : BlkF u B b vs) (hb : Below N u u') (hlt : b < N) : BlkF u' B b vs :=
  ⟨h.ge, Nat.lt_of_lt_of_le h.lt hb.size, fun i v hv => (hb.cell (p := ⟨b, i, none⟩) hlt).trans (h.at' i v hv), fun j => (hb.frozen (p := ⟨b, j, none⟩) hlt).trans (h.fz j)⟩
/-- The rows ahead of a leg. -/
def BrO (N : Nat) (L : List (Int × Int)) (C : Option Addr) (n c : Nat) (wr : World) : Prop := L.length = n ∧ wr.ownsRow N 69 2 (.slice C n c) n (rowsV p2V L)
/-- The rows ahead of a leg's j-th kind. -/
def BrI (N S M : Nat) (L : List (Int × Int)) (KL : List Int) (KA : Option Addr) (k j : Nat) (C : Option Addr) (n c : Nat) (wr : World) : Prop :=
  (L ++ (KL.take j).map fun q => ((k : Int), q)).length = n ∧ wr.ownsRow N 69 2 (.slice C n c) n (rowsV p2V (L ++ (KL.take j).map fun q => ((k : Int), q))) ∧ (∀ b, (Value.slice C n c).ownBlock = some b → b < S ∨ M ≤ b) ∧ SlRows inV 1 wr KA KL ∧ M ≤ wr.heap.size
theorem infoQ9 : (Try.prog.info? 69).map (fun i => (i.zero, i.size, i.bytes)) = some (some (.agg #[.int .i64 0, .int .i64 0]), 2, 16) := by kernel_rfl
set_option maxRecDepth 100000 in
set_option maxHeartbeats 4000000 in
theorem refBreaks_is (nm : ByteArray) (s : Int) (G : List Ga) (D : List Le) (A B : Option Addr) (gn gc dn dc : Nat) (T : List Ox) (r : Ru) (AT : Option Addr) (tn tc : Nat) (w : World) (hgn : Hid (gn = G.length)) (hdn : Hid (dn = D.length)) (hok : Hid (PlnOk nm s G D)) (hG : Hid (SlRows gaV 2 w A G)) (hD : Hid (SlRows leV 3 w B D)) (hru : Hid (RuOk T r)) :
    Calls Try.prog 36 #[.agg #[.string nm, .int .i64 s, .slice A gn gc, .slice B dn dc], .agg #[.slice AT tn tc, .int .i64 r.a, .int .i64 r.b, .int .i64 r.nc, .int .i64 r.dn, .int .i64 r.br, .int .i64 r.em, .int .i64 r.pa, .int .i64 r.sc]] w fun e w' => ∃ (C : Option Addr) (c : Nat), e = .returned (.slice C (bkL r (legC s G D) (List.range dn)).length c) ∧ SlRows p2V 2 w' C (bkL r (legC s G D) (List.range dn)) ∧ Below w.heap.size w w' := by
  obtain ⟨i0, hi0, hz0', hz1', hz2'⟩ := info_partsG infoQ9
  have HI := Lib.hid hi0
  have HZ0 := Lib.hid hz0'
  have HZ1 := Lib.hid hz1'
  have HZ2 := Lib.hid hz2'
  clear hi0 hz0' hz1' hz2'
  have d60 : dn ≤ 60 := by have := hok.out.d6; have := hdn.out; omega
  have hlm := Lib.hid (limE_bd2 hru.out.lm)
  go_enter Try.func36, Try.ntmps36
  go_upto_region 1 with (fail)
  refine wp_worldE (fun u => BlkF u w.heap.size w.heap.size [.string nm, .int .i64 s, .slice A gn gc, .slice B dn dc] ∧ BlkF u w.heap.size (w.heap.size + 1) [.slice AT tn tc, .int .i64 r.a, .int .i64 r.b, .int .i64 r.nc, .int .i64 r.dn, .int .i64 r.br, .int .i64 r.em, .int .i64 r.pa, .int .i64 r.sc] ∧ Below w.heap.size w u ∧ u.heap.size = (w.heap.size + 1 + 1)) ⟨(BlkF.made (B := w.heap.size) w [.string nm, .int .i64 s, .slice A gn gc, .slice B dn dc] 40 (Nat.le_refl _)).below (Below.alloc (Below.refl _ _) (Nat.le_refl _) (.cells #[.slice AT tn tc, .int .i64 r.a, .int .i64 r.b, .int .i64 r.nc, .int .i64 r.dn, .int .i64 r.br, .int .i64 r.em, .int .i64 r.pa, .int .i64 r.sc] 26)), by have h := BlkF.made (B := w.heap.size) (w.alloc (.cells #[.string nm, .int .i64 s, .slice A gn gc, .slice B dn dc] 40)) [.slice AT tn tc, .int .i64 r.a, .int .i64 r.b, .int .i64 r.nc, .int .i64 r.dn, .int .i64 r.br, .int .i64 r.em, .int .i64 r.pa, .int .i64 r.sc] 26 (by simp); simpa using h, ((Below.refl _ _).alloc (Nat.le_refl _) _).alloc (by simp) _, by simp⟩ (fun u hu => ?_)
  obtain ⟨PB, RB, hB0, hsz⟩ := hu
  have hO0 : Hid (BrO (w.heap.size + 1 + 1) (bkL r (legC s G D) (List.range 0)) none 0 0 u) := Lib.hid (by unfold BrO; exact ⟨rfl, rfl, .inl ⟨rfl, rfl⟩⟩)
  have hG0 : Hid (BlkF u w.heap.size w.heap.size [.string nm, .int .i64 s, .slice A gn gc, .slice B dn dc] ∧ BlkF u w.heap.size (w.heap.size + 1) [.slice AT tn tc, .int .i64 r.a, .int .i64 r.b, .int .i64 r.nc, .int .i64 r.dn, .int .i64 r.br, .int .i64 r.em, .int .i64 r.pa, .int .i64 r.sc] ∧ Below w.heap.size w u) := Lib.hid ⟨PB, RB, hB0⟩
  have hz0 : Hid ((w.heap.size + 1 + 1) ≤ u.heap.size) := Lib.hid (by omega)
  clear PB RB hB0 hsz
  go_wp2_with fail
  go_loopw [5, 6] (fun v i wr => ∃ (k n : Nat) (C : Option Addr) (c : Nat), k ≤ dn ∧ i = .int .i64 k ∧ v = .slice C n c ∧ Hid (BrO (w.heap.size + 1 + 1) (bkL r (legC s G D) (List.range k)) C n c wr) ∧ Hid (BlkF wr w.heap.size w.heap.size [.string nm, .int .i64 s, .slice A gn gc, .slice B dn dc] ∧ BlkF wr w.heap.size (w.heap.size + 1) [.slice AT tn tc, .int .i64 r.a, .int .i64 r.b, .int .i64 r.nc, .int .i64 r.dn, .int .i64 r.br, .int .i64 r.em, .int .i64 r.pa, .int .i64 r.sc] ∧ Below w.heap.size w wr) ∧ Hid ((w.heap.size + 1 + 1) ≤ wr.heap.size)) (fun _ i _ => dn - (intOf i).toNat)
  case atStart => exact ⟨0, 0, none, 0, by omega, rfl, rfl, hO0, hG0, hz0⟩
  case round =>
    clear hO0 hG0 hz0
    obtain ⟨k, n, C, c, hk, rfl, rfl, HO, HGN, HSZ⟩ := hrel
    obtain ⟨PB, RB, hB⟩ := HGN.out
    obtain ⟨hn9, hO⟩ := HO.out
    have zb := hB.size
    have hnn : n ≤ 240 := by have h := bkL_len r (legC s G D) _ (List.range k) rfl; rw [hn9, List.length_range] at h; omega
    by_cases hkn : k < dn
    · have hkD : k < D.length := by have := hdn.out; omega
      have kn : (k : Int) < (dn : Int) := by omega
      have hy := legK_ok hok.out hkD
      obtain ⟨y, hyy⟩ : ∃ z, Hid (legK s G D k = z) := ⟨_, Lib.hid rfl⟩
      have hyc : Hid (legC s G D k = y) := Lib.hid (by rw [legC_is hkD]; exact hyy.out)
      rw [hyy.out] at hy
      have hsu : Hid (y.su = s) := Lib.hid (by rw [← hyy.out]; rfl)
      obtain ⟨a9, ha9⟩ : ∃ z, Hid (y.su + y.bd = z) := ⟨_, Lib.hid rfl⟩
      obtain ⟨b9', hb9⟩ : ∃ z, Hid (y.su + y.d = z) := ⟨_, Lib.hid rfl⟩
      obtain ⟨lo9, hlo9⟩ : ∃ z, Hid (y.su + min y.bd y.d = z) := ⟨_, Lib.hid rfl⟩
      obtain ⟨hi9, hhi9⟩ : ∃ z, Hid (y.su + max y.bd y.d = z) := ⟨_, Lib.hid rfl⟩
      obtain ⟨KL, hKL⟩ : ∃ z, Hid (brkL r y.o y.h s lo9 hi9 = z) := ⟨_, Lib.hid rfl⟩
      have hKB : Hid (bkOf r y = KL) := Lib.hid (by unfold bkOf; rw [hlo9.out, hhi9.out, hsu.out]; exact hKL.out)
      have hK4 : KL.length ≤ 4 := by rw [← hKL.out]; exact brkL_len _ _ _ _ _ _
      obtain ⟨m9, hm9⟩ : ∃ z, Hid (KL.length = z) := ⟨_, Lib.hid rfl⟩
      rw [hm9.out] at hK4
      have HEN : Hid (∀ X, Hid (SlRows gaV 2 X A G) → Hid (SlRows leV 3 X B D) → Calls Try.prog 76 #[.agg #[.string nm, .int .i64 s, .slice A gn gc, .slice B dn dc], .int .i64 (k : Int)] X fun e w' => e = .returned (.tuple #[.int .i64 a9, .int .i64 b9', .agg #[.int .i64 y.o, .int .i64 y.h]]) ∧ Below X.heap.size X w') := Lib.hid fun X h1 h2 => by
        have h := refEnds_is nm s G D A B gn gc dn dc k X hgn hdn hok hkn h1 h2
        rw [hyy.out, ha9.out, hb9.out] at h
        exact h
      have HBA : Hid (∀ X, Calls Try.prog 84 #[.agg #[.int .i64 y.o, .int .i64 y.h], .int .i64 s, .int .i64 a9, .int .i64 b9', .agg #[.slice AT tn tc, .int .i64 r.a, .int .i64 r.b, .int .i64 r.nc, .int .i64 r.dn, .int .i64 r.br, .int .i64 r.em, .int .i64 r.pa, .int .i64 r.sc]] X fun e w' => ∃ (C : Option Addr) (c : Nat), e = .returned (.slice C m9 c) ∧ SlRows inV 1 w' C KL ∧ (∀ ad, C = some ad → X.heap.size ≤ ad.block) ∧ Below X.heap.size X w') := Lib.hid fun X => by
        have h1 := hlo9.out
        have h2 := hhi9.out
        have h3 := ha9.out
        have h4 := hb9.out
        have h5 := hsu.out
        have h6 := hy.bd
        have h7 := hy.d
        have h8 := hy.su
        have h := breaksAt_is y.o y.h s a9 b9' lo9 hi9 r AT tn tc KL X (Lib.hid hy.ga) (by omega) (by omega) (by omega) (by omega) (by omega) (by split <;> omega) (by split <;> omega) hlm.out.1.1 hlm.out.1.2 hlm.out.2.1 hlm.out.2.2 hKL
        rw [hm9.out] at h
        exact h
      have hBX := Lib.hid hB
      have hsn := bkL_snoc r (legC s G D) (List.range k) k
      rw [hyc.out, hKB.out, ← List.range_succ, show y.nu = (k : Int) by rw [← hyy.out]; rfl] at hsn
      have HSN := Lib.hid hsn
      obtain ⟨L, hL⟩ : ∃ z, Hid ((bkL r (legC s G D) (List.range k)) = z) := ⟨_, Lib.hid rfl⟩
      rw [hL.out] at hO hn9 hsn HSN
      clear hsn hy
      obtain ⟨c0, c1, c2, c3⟩ := b4 PB
      obtain ⟨r0, r1, r2, r3, r4, r5, r6, r7, r8⟩ := b9 RB
      go_wp2_with fail
      refine (HEN.out _ (Lib.hid (hG.out.below hBX.out)) (Lib.hid (hD.out.below hBX.out))).mono ?_
      rintro e x1 ⟨rfl, hb1⟩
      have hB1 := hBX.out.trans (hb1.mono zb)
      have PB1 := PB.below hb1
      have RB1 := RB.below hb1
      have hO1 := own_belowG hO hb1 (Nat.le_refl _)
      have hown0 : ∀ b, (Value.slice C n c).ownBlock = some b → b < wr.heap.size := fun b hb => (own_blockG hO b hb).2
      have hs1 := hb1.size
      clear hb1 c0 c1 c2 c3 r0 r1 r2 r3 r4 r5 r6 r7 r8 PB RB hO
      obtain ⟨c0, c1, c2, c3⟩ := b4 PB1
      obtain ⟨r0, r1, r2, r3, r4, r5, r6, r7, r8⟩ := b9 RB1
      have lc := PB1.lt
      have lr := RB1.lt
      have nc1 : x1.heap.size ≠ w.heap.size := by omega
      have nc2 : x1.heap.size ≠ w.heap.size + 1 := by omega
      have nc3 : w.heap.size ≠ x1.heap.size := by omega
      have nc4 : w.heap.size + 1 ≠ x1.heap.size := by omega
      go_wp2_with fail
      refine (HBA.out _).mono ?_
      rintro e x2 ⟨KA, kc, rfl, hsK, hge, hb2⟩
      have hx12 : Below x1.heap.size x1 x2 := ((Below.refl _ _).alloc (Nat.le_refl _) _).trans (hb2.mono (by simp))
      have hB2 := hB1.trans (hx12.mono hB1.size)
      have PB2 := PB1.below hx12
      have RB2 := RB1.below hx12
      have hO2 := own_belowG hO1 hx12 (Nat.le_refl _)
      have hs2 := hx12.size
      obtain ⟨M, hM⟩ : ∃ z, Hid (x2.heap.size = z) := ⟨_, Lib.hid rfl⟩
      have hM2 := hM.out
      have HKG : Hid (∀ ad, KA = some ad → wr.heap.size ≤ ad.block) := Lib.hid (fun ad h => by have := hge ad h; simp at this; omega)
      have HKM : Hid (∀ ad, KA = some ad → KL ≠ [] → ad.block < M) := Lib.hid (fun ad h hne => by
        rcases hsK with h2 | ⟨b, off, h2, hl, _⟩
        · exact absurd h2 hne
        · rw [h] at h2; cases h2; show b < M; omega)
      obtain ⟨S, hS⟩ : ∃ z, Hid (wr.heap.size = z) := ⟨_, Lib.hid rfl⟩
      rw [hS.out] at HKG hown0
      have HII : Hid (BrI (w.heap.size + 1 + 1) S M L KL KA k 0 C n c x2) := Lib.hid (by
        unfold BrI
        rw [List.take_zero, List.map_nil, List.append_nil]
        exact ⟨hn9, hO2, fun b hb => Or.inl (hown0 b hb), hsK, by omega⟩)
      have HG2 : Hid (BlkF x2 w.heap.size w.heap.size [.string nm, .int .i64 s, .slice A gn gc, .slice B dn dc] ∧ BlkF x2 w.heap.size (w.heap.size + 1) [.slice AT tn tc, .int .i64 r.a, .int .i64 r.b, .int .i64 r.nc, .int .i64 r.dn, .int .i64 r.br, .int .i64 r.em, .int .i64 r.pa, .int .i64 r.sc] ∧ Below w.heap.size w x2) := Lib.hid ⟨PB2, RB2, hB2⟩
      have HS2 : Hid ((w.heap.size + 1 + 1) ≤ S ∧ S ≤ M) := Lib.hid (by have := hS.out; have := HSZ.out; omega)
      clear hge hsK hb2 hx12 hB2 PB2 RB2 hO2 hs2 hM2 hO1 hs1 hB1 PB1 RB1 c0 c1 c2 c3 r0 r1 r2 r3 r4 r5 r6 r7 r8 lc lr nc1 nc2 nc3 nc4 hown0 hB zb hn9
      go_wp2_with fail
      go_loopw [5, 11] (fun v i wr => ∃ (j n : Nat) (C : Option Addr) (c : Nat), j ≤ m9 ∧ i = .int .i64 j ∧ v = .slice C n c ∧ Hid (BrI (w.heap.size + 1 + 1) S M L KL KA k j C n c wr) ∧ Hid (BlkF wr w.heap.size w.heap.size [.string nm, .int .i64 s, .slice A gn gc, .slice B dn dc] ∧ BlkF wr w.heap.size (w.heap.size + 1) [.slice AT tn tc, .int .i64 r.a, .int .i64 r.b, .int .i64 r.nc, .int .i64 r.dn, .int .i64 r.br, .int .i64 r.em, .int .i64 r.pa, .int .i64 r.sc] ∧ Below w.heap.size w wr)) (fun _ i _ => m9 - (intOf i).toNat)
      case atStart => exact ⟨0, n, C, c, by omega, rfl, rfl, HII, HG2⟩
      case round =>
        clear HII HG2
        obtain ⟨j, n, C, c, hj, rfl, rfl, HII, HGN⟩ := hrel
        obtain ⟨PB, RB, hB⟩ := HGN.out
        obtain ⟨hnl, rX, oX, sX, hMw⟩ := HII.out
        have hsm := HS2.out
        by_cases hjm : j < m9
        · obtain ⟨XS, hXS⟩ : ∃ z, Hid ((L ++ (KL.take j).map fun q => ((k : Int), q)) = z) := ⟨_, Lib.hid rfl⟩
          rw [hXS.out] at rX hnl
          have hnn2 : n ≤ 244 := by
            have h : XS.length ≤ L.length + KL.length := by rw [← hXS.out, List.length_append, List.length_map, List.length_take]; omega
            have := hm9.out
            have h2 : L.length ≤ 240 := by rw [← hL.out]; have h := bkL_len r (legC s G D) _ (List.range k) rfl; rw [List.length_range] at h; omega
            omega
          have kn : (j : Int) < (m9 : Int) := by omega
          have k0 : ¬ (j : Int) < 0 := by omega
          have kK : j < KL.length := by have := hm9.out; omega
          obtain ⟨kj, hkj⟩ : ∃ z, Hid (KL[j] = z) := ⟨_, Lib.hid rfl⟩
          obtain ⟨kb, ko, hKA, lk, rk⟩ := sX.at' kK
          have ck : wr.cell? ⟨kb, ko + j, none⟩ = some (.int .i64 kj) := by
            have h := rk j kK 0 (by omega)
            rw [show (inV KL[j])[0]? = some (.int .i64 kj) by rw [← hkj.out]; rfl, show ko + j * 1 + 0 = ko + j by omega] at h
            exact h
          subst hKA
          have hKb1 : S ≤ kb := HKG.out _ rfl
          have hKb2 : kb < M := HKM.out _ rfl (by intro e; rw [e] at kK; simp at kK)
          have lP := PB.lt
          have lR := RB.lt
          clear rk
          go_wp2_with (at_builtin; refine wpList_append_slG rfl _ _ 63 rfl (w.heap.size + 1 + 1) 69 i0 (.agg #[.int .i64 0, .int .i64 0]) 2 16 Try.underlying63 HI.out HZ0.out HZ1.out HZ2.out rfl (by decide) (.slice C n c) n (rowsV p2V XS) rfl (own_belowG rX ((Below.refl _ _).alloc (Nat.le_refl _) _) (Nat.le_refl _)) (some ⟨wr.heap.size, 0, none⟩) 1 1 [.int .i64 (k : Int), .int .i64 kj] rfl (fun h => by cases h) rfl (fun ad had j v hj => by cases had; rw [addNR, Nat.zero_add]; exact (BlkF.made (B := 0) wr [.int .i64 (k : Int), .int .i64 kj] 69 (Nat.zero_le _)).at' j v hj) (by intro v hv; simp at hv; rcases hv with rfl | rfl <;> rfl) (by unfold maxLen; omega) (by omega) (by simp; omega) ?_)
          intro rv X0 hown hgrow hblk
          have hbT : Below wr.heap.size wr (wr.alloc (.cells #[.int .i64 (k : Int), .int .i64 kj] 69)) := (Below.refl _ _).alloc (Nat.le_refl _) _
          have hNX : Below (w.heap.size + 1 + 1) wr X0 := (hbT.mono (by omega)).grown hgrow (by simp; omega) (fun r hr => (own_blockG rX r hr).1)
          have hxs : Hid ((L ++ (KL.take (j + 1)).map fun q => ((k : Int), q)) = XS ++ [((k : Int), kj)]) := Lib.hid (by rw [← hXS.out, List.take_add_one, List.getElem?_eq_getElem kK, hkj.out, List.map_append, List.append_assoc]; rfl)
          obtain ⟨lq, hlq⟩ : ∃ z, Hid ((XS ++ [((k : Int), kj)]).length = z) := ⟨_, Lib.hid rfl⟩
          have hlq2 : n + 1 = lq := by rw [← hlq.out, List.length_append, hnl]; rfl
          obtain ⟨A5, c5, hrv, hz1, hz2, hz3, hz4, hz5⟩ := SlRows_own (f := p2V) (n := 2) (L := XS ++ [((k : Int), kj)]) (fun _ => rfl) (by rw [rowsV_appG, List.length_append, hnl]; exact hown)
          clear hz1 hz2 hz3 hz4 hz5
          rw [hlq.out] at hrv
          subst hrv
          have hsX := hgrow.size
          simp at hsX
          have rne : some kb ≠ (Value.slice C n c).ownBlock := fun e => by have := oX kb e.symm; omega
          have HI2 : Hid (BrI (w.heap.size + 1 + 1) S M L KL (some ⟨kb, ko, none⟩) k (j + 1) A5 lq c5 X0) := Lib.hid (by
            unfold BrI
            rw [hxs.out]
            refine ⟨hlq.out, ?_, ?_, ?_, by omega⟩
            · rw [rowsV_appG, ← hlq2]
              rw [← hlq2] at hown
              exact hown
            · intro b hb
              rcases hblk b hb with h | h
              · exact oX b h
              · right; first | omega | (simp at h; omega)
            · refine sl_same sX (by omega) (fun ad had _ => ?_)
              cases had
              exact (hgrow.block kb (by simp; omega) rne).trans (hbT.block kb lk))
          have HG3 : Hid (BlkF X0 w.heap.size w.heap.size [.string nm, .int .i64 s, .slice A gn gc, .slice B dn dc] ∧ BlkF X0 w.heap.size (w.heap.size + 1) [.slice AT tn tc, .int .i64 r.a, .int .i64 r.b, .int .i64 r.nc, .int .i64 r.dn, .int .i64 r.br, .int .i64 r.em, .int .i64 r.pa, .int .i64 r.sc] ∧ Below w.heap.size w X0) := Lib.hid ⟨blkF_belowM PB hNX (by omega), blkF_belowM RB hNX (by omega), hB.trans (hNX.mono (by omega))⟩
          clear hown hgrow hblk hNX hbT rX oX sX ck rne hsX hlq2 HII HGN PB RB lP lR hKb1 hKb2 hsm hMw
          go_wp2
          go_roundw
          case rel => exact ⟨j + 1, lq, A5, c5, by omega, by go_num, rfl, HI2, HG3⟩
          case measure => simp [intOf]; omega
        · have kn : ¬ (j : Int) < (m9 : Int) := by omega
          have hfin : (L ++ (KL.take j).map fun q => ((k : Int), q)) = (bkL r (legC s G D) (List.range (k + 1))) := by
            rw [HSN.out, show j = KL.length by have := hm9.out; omega, List.take_length]
          rw [hfin] at hnl rX
          have HOK : Hid (BrO (w.heap.size + 1 + 1) (bkL r (legC s G D) (List.range (k + 1))) C n c wr) := Lib.hid ⟨hnl, rX⟩
          have HGK : Hid (BlkF wr w.heap.size w.heap.size [.string nm, .int .i64 s, .slice A gn gc, .slice B dn dc] ∧ BlkF wr w.heap.size (w.heap.size + 1) [.slice AT tn tc, .int .i64 r.a, .int .i64 r.b, .int .i64 r.nc, .int .i64 r.dn, .int .i64 r.br, .int .i64 r.em, .int .i64 r.pa, .int .i64 r.sc] ∧ Below w.heap.size w wr) := Lib.hid ⟨PB, RB, hB⟩
          have HSK : Hid ((w.heap.size + 1 + 1) ≤ wr.heap.size) := Lib.hid (by omega)
          clear hfin hnl rX oX sX hMw HII HGN PB RB hB hsm
          go_wp2
          go_roundw
          case rel => exact ⟨k + 1, n, C, c, by omega, by go_num, rfl, HOK, HGK, HSK⟩
          case measure => simp [intOf]; omega
    · have kn : ¬ (k : Int) < (dn : Int) := by omega
      obtain ⟨A5, c5, hrv, hS5, _, _, _, _⟩ := SlRows_own (f := p2V) (n := 2) (L := (bkL r (legC s G D) (List.range k))) (fun _ => rfl) (by rw [hn9]; exact hO)
      rw [hn9] at hrv
      injection hrv with e1 e2 e3
      subst e1
      have hkk : k = dn := by omega
      have HF := Lib.hid hS5
      have HN := Lib.hid hn9
      have HK := Lib.hid hkk
      obtain ⟨c0, c1, c2, c3⟩ := b4 PB
      clear hS5 hO hn9 hkk
      go_wp2
      go_ret
      have hn3 := HN.out
      have hS6 := HF.out
      rw [HK.out] at hn3 hS6
      rw [hn3]
      first | exact ⟨C, ⟨_, rfl⟩, hS6, hB⟩ | exact ⟨C, _, rfl, hS6, hB⟩
end Go.Proofs.Ytijdphlejokijaa
