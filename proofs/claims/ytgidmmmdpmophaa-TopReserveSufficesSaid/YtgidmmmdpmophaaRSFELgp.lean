import Derived.Test.YtgidmmmdpmophaaRSFELgs
import Derived.Test.YtgidmmmdpmophaaRSFPos
import Derived.Sort.CutIn
import Derived.Deep.DrawnRows
import Derived.Outline
namespace Go.Proofs.Ytgidmmmdpmophaa
open Go.Shelf Go.ChangeShapes Go.WideShapes Go.ChangeAt Go.RowKit
set_option linter.unusedVariables false
set_option linter.unusedSimpArgs false
attribute [local go_sem ↓] Go.wp_at_zero Go.wp_at_succ
attribute [local go_sem] Oper.semAt_some
set_option maxRecDepth 100000 in
set_option maxHeartbeats 4000000 in
theorem legs_pos (n : Nat) (hn : 1 ≤ n) (bs : List Nat) (fb : Nat) (nm : ByteArray) (s : Int) (G : List Ga) (D : List Le) (A B P : Option Addr) (gn gc dn dc pc : Nat) (E9 : Int) (w : World) (hgn : Hid (gn = G.length)) (hdn : Hid (dn = D.length)) (hok : Hid (PlnOk nm s G D)) (hM : FolM bs fb nm s G D A B P gn gc dn dc pc E9 w) :
    SeqP (n - 1) n Try.prog 60 #[.pointer (some ⟨fb, 0, none⟩)] (fun k : Nat => #[.agg #[.int .i64 (legC s G D k).s, .int .i64 (legC s G D k).d, .int .i64 (legC s G D k).g, .int .i64 (legC s G D k).nu, .int .i64 (legC s G D k).bs, .int .i64 (legC s G D k).bd, .int .i64 (legC s G D k).su, .int .i64 (legC s G D k).o, .int .i64 (legC s G D k).h]]) (KpB bs) dn w := by
  intro l J Jx W hW hJ hJx _ hY h0
  have HM := Lib.hid (hM.below hW)
  have HY := Lib.hid hY
  have HJ := Lib.hid hJ
  clear hY hM hJ hJx
  obtain ⟨c0, c1, c2, c3, c4, c5⟩ : W.cell? ⟨fb, 0, none⟩ = some (.string nm) ∧ W.cell? ⟨fb, 1, none⟩ = some (.int .i64 s) ∧ W.cell? ⟨fb, 2, none⟩ = some (.slice A gn gc) ∧ W.cell? ⟨fb, 3, none⟩ = some (.slice B dn dc) ∧ W.cell? ⟨fb, 4, none⟩ = some (.slice P (dn + 1) pc) ∧ W.cell? ⟨fb, 5, none⟩ = some (.int .i64 E9) := ⟨HM.out.c0, HM.out.c1, HM.out.c2, HM.out.c3, HM.out.c4, HM.out.c5⟩
  have h0' := Lib.hid h0
  clear h0
  refine callsIn_of_wp Try.func60 rfl trivial ?_
  simp only [Try.ntmps60, List.size_toArray, List.length_cons, List.length_nil, Nat.reduceAdd, Nat.reduceSub, Array.replicate_succ, Array.replicate_zero, List.push_toArray, List.append_toArray, List.nil_append, List.cons_append]
  gi_wp2
  gi_loopw [8] (fun i wr => ∃ k : Nat, k ≤ dn ∧ i = .int .i64 k ∧ Hid (J k wr) ∧ Hid (FolM bs fb nm s G D A B P gn gc dn dc pc E9 wr)) (fun i _ => dn - (intOf i).toNat)
  case atStart => exact ⟨0, by omega, rfl, h0', HM⟩
  case round =>
    clear HM h0' c0 c1 c2 c3 c4 c5
    obtain ⟨k, hk, rfl, HJs, HM⟩ := hrel
    obtain ⟨c0, c1, c2, c3, c4, c5⟩ : wr.cell? ⟨fb, 0, none⟩ = some (.string nm) ∧ wr.cell? ⟨fb, 1, none⟩ = some (.int .i64 s) ∧ wr.cell? ⟨fb, 2, none⟩ = some (.slice A gn gc) ∧ wr.cell? ⟨fb, 3, none⟩ = some (.slice B dn dc) ∧ wr.cell? ⟨fb, 4, none⟩ = some (.slice P (dn + 1) pc) ∧ wr.cell? ⟨fb, 5, none⟩ = some (.int .i64 E9) := ⟨HM.out.c0, HM.out.c1, HM.out.c2, HM.out.c3, HM.out.c4, HM.out.c5⟩
    by_cases hkd : k < dn
    · have kn : (k : Int) < (dn : Int) := by omega
      have d60 : dn ≤ 60 := by have := hok.out.d6; have := hdn.out; omega
      have hwk : wrap64 ((k : Int) + 1) = (k : Int) + 1 := (IntWalk.i64_left _).symm.trans (IntWalk.i64_in _ (by omega))
      gi_wp2_with fail
      refine ⟨trivial, (callsIn_wide.2 (leg_is nm s G D A B P gn gc dn dc pc E9 k _ hgn hdn hok hkd (Lib.hid HM.out.ga.sl) (Lib.hid HM.out.le.sl) (Lib.hid HM.out.pt.sl))).mono ?_⟩
      rintro e W2 ⟨rfl, hb2⟩
      have hJ2 := HJ.out k wr W2 none HJs.out (grown_of_below hb2) (fun r e => by cases e)
      have HM2 := Lib.hid (HM.out.below hb2)
      obtain ⟨fn, tmps, assign, body, hy, hR⟩ := HY.out k W2 hkd hJ2
      simp only [legC_is (show k < D.length by have := hdn.out; omega)] at hy
      clear HJs HM hb2 c0 c1 c2 c3 c4 c5 hJ2
      gi_wp2
      refine hR.mono ?_
      rintro e W3 ⟨hkf3, (⟨rfl, hJ3, hk3⟩ | ⟨rfl, hJx3⟩)⟩
      · have HJ3 := Lib.hid hJ3
        have HM3 := Lib.hid (HM2.out.kp hk3)
        clear hJ3 hk3 HM2
        gi_wp2
        go_roundw
        case rel => exact ⟨k + 1, by omega, by go_num, HJ3, HM3⟩
        case measure => simp [intOf]; omega
      · gi_wp2
        refine bodyPost_ret (results_none rfl _ _ _) rfl ?_
        exact ⟨⟨_, rfl⟩, .inr ⟨k, hkd, hJx3⟩⟩
    · have kn : ¬ (k : Int) < (dn : Int) := by omega
      obtain rfl : k = dn := by omega
      gi_wp2
      go_end0
      first | exact ⟨⟨_, rfl⟩, .inl HJs.out⟩ | exact ⟨⟨_, rfl⟩, .inl ⟨_, rfl, HJs.out⟩⟩
end Go.Proofs.Ytgidmmmdpmophaa
