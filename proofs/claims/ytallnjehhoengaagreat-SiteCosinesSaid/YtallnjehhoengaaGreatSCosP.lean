/- The program's cosine of any angle. -/
import Derived.Test.YtallnjehhoengaaGreatSCosw
import Derived.Test.YtallnjehhoengaaGreatSLvl
import Derived.Test.YtallnjehhoengaaGreatSLaw0
import Derived.Test.YtallnjehhoengaaGreatSWave
import Derived.Outline
namespace Go.Proofs.YtallnjehhoengaaGreat
open Go.ChangeShapes Go.WideShapes Go.ChangeAt Go.RowKit
set_option linter.unusedVariables false
set_option linter.unusedSimpArgs false
attribute [local go_sem ↓] Go.wp_at_zero Go.wp_at_succ
def angE (n : Int) : Int := rngE n 0 4095
theorem cAngle_is (n E : Int) (w : World) (hE : Hid (angE n = E)) :
    Calls Tryz.prog 65 #[.int .i64 n] w fun e w' => e = .returned (.int .i64 E) ∧ w = w' := by
  rw [← hE.out]
  exact checkAngle_any n w
set_option maxRecDepth 100000 in
set_option maxHeartbeats 1000000 in
theorem Cos_bad (n E : Int) (w : World) (hE : Hid (angE n = E)) (hz : (E != 0) = true) :
    Calls Tryz.prog 15 #[.int .i64 n] w fun e w' => e = .returned (.tuple #[.agg #[.int .i64 0, .int .i64 0], .int .i64 E]) ∧ Below w.heap.size w w' := by
  go_enter Tryz.func15, Tryz.ntmps15
  go_wp2_with ((go_at_call 65; ((with_reducible refine (cAngle_is n E _ hE).mono ?_)); rintro e w' ⟨rfl, rfl⟩))
  refine bodyPost_ret (v := .tuple #[.agg #[.int .i64 0, .int .i64 0], .int .i64 E]) (by simp [results, Tryz.results15, go_sem, *]) rfl ⟨rfl, ?_⟩
  (repeat (first | (with_reducible refine Below.drew ?_) | (with_reducible refine below_drewN ?_ _) | (with_reducible refine Below.alloc ?_ (by first | omega | (simp; done) | (simp; omega) | (simp at *; omega)) _) | (with_reducible refine Below.setCell ?_ (by first | omega | (simp; done) | (simp; omega) | (simp at *; omega)) _) | (with_reducible exact Below.refl _ _) | (with_reducible assumption) | (with_reducible refine Below.trans ?_ (Below.mono (by assumption) (by first | omega | (simp; done) | (simp; omega) | (simp at *; omega))))))
theorem four_pt {X : World} {b o : Nat} (h : X.rangeAt b o hvV) : ∀ k, k < 11 → X.rangeAt b (o + k * 4) (ptV (hv k)) := by
  intro k hk j v hj
  have hj2 : j < 4 := (List.getElem?_eq_some_iff.1 hj).1
  have key : ∀ (L : List Pt) (k : Nat) (q : Pt), L[k]? = some q → (L.flatMap ptV)[k * 4 + j]? = (ptV q)[j]? := by
    intro L
    induction L with
    | nil => intro k q h; simp at h
    | cons a L ih =>
      intro k q h
      have hl : (ptV a).length = 4 := rfl
      rw [List.flatMap_cons]
      rcases k with _ | k
      · cases h
        rw [List.getElem?_append_left (by rw [hl]; omega)]; simp
      · rw [List.getElem?_append_right (by rw [hl]; omega), hl, show (k + 1) * 4 + j - 4 = k * 4 + j by omega]
        exact ih k q (by simpa using h)
  have := h (k * 4 + j) v (by unfold hvV; rw [key hvL k (hv k) (by unfold hv; rw [List.getD_eq_getElem?_getD, List.getElem?_eq_getElem (show k < hvL.length from hk)]; rfl)]; exact hj)
  rw [show o + k * 4 + j = o + (k * 4 + j) by omega]; exact this
theorem halved_is (w : World) (H : List Value) (hH : Hid (hvV = H)) :
    Calls Tryz.prog 66 #[] w fun e w' => e = .returned (.agg H.toArray) ∧ Below w.heap.size w w' := by
  rw [← hH.out]; exact halved_any w
theorem th44 {V : World} {Z : List Value} {T : TypeId} {n : Nat} (hz : Z.length = 44) (hn : n = 44) : (V.alloc (.cells Z.toArray T)).there V.heap.size 0 n := by
  subst hn; have h := there_new V Z T; rw [hz] at h; exact h
/-- What lies there when the cosine is asked for. -/
structure CoS (w : World) (n : Nat) (X : World) : Prop where
  h : HvA X n 0
  r0 : X.cell? ⟨w.heap.size, 0, none⟩ = some (.int .i64 0)
  r1 : X.cell? ⟨w.heap.size, 1, none⟩ = some (.int .i64 0)
  rf : ∀ j, X.frozen? ⟨w.heap.size, j, none⟩ = false
  nw : w.heap.size < n
  sz : n < X.heap.size
  be : Below w.heap.size w X
theorem co_start {w V : World} {Z H : List Value} {T T2 : TypeId} (hH : Hid (hvV = H)) (hz : Z.length = 44) (hb : Below (w.heap.size + 1) (w.alloc (.cells #[.int .i64 0, .int .i64 0] T2)) V) :
    CoS w V.heap.size ((V.alloc (.cells Z.toArray T)).setCells V.heap.size 0 H) := by
  have hs := hb.size
  rw [show (w.alloc (.cells #[.int .i64 0, .int .i64 0] T2)).heap.size = w.heap.size + 1 by simp] at hs
  have hl : H.length = 44 := by rw [← hH.out]; exact hvV_len
  have hB : Below V.heap.size V ((V.alloc (.cells Z.toArray T)).setCells V.heap.size 0 H) := below_setCells (Nat.le_refl _) _ _ ((Below.refl _ _).alloc (Nat.le_refl _) _)
  have hB2 : Below (w.heap.size + 1) (w.alloc (.cells #[.int .i64 0, .int .i64 0] T2)) ((V.alloc (.cells Z.toArray T)).setCells V.heap.size 0 H) := hb.trans (hB.mono hs)
  have g := World.rangeAt_setCells_same (V.alloc (.cells Z.toArray T)) V.heap.size 0 H (th44 hz hl)
  rw [← hH.out] at g
  refine ⟨by rw [← hH.out]; exact four_pt g, (hB2.cell (p := ⟨w.heap.size, 0, none⟩) (by show w.heap.size < w.heap.size + 1; omega)).trans (by simp [go_sem]), (hB2.cell (p := ⟨w.heap.size, 1, none⟩) (by show w.heap.size < w.heap.size + 1; omega)).trans (by simp [go_sem]), fun j => ?_, by omega, by rw [size_setCells]; simp, ?_⟩
  · have z : (w.alloc (.cells #[.int .i64 0, .int .i64 0] T2)).heap.size = w.heap.size + 1 := by simp
    have hB3 : Below (w.alloc (.cells #[.int .i64 0, .int .i64 0] T2)).heap.size (w.alloc (.cells #[.int .i64 0, .int .i64 0] T2)) ((V.alloc (.cells Z.toArray T)).setCells V.heap.size 0 H) := by rw [z]; exact hB2
    rw [(bcell hB3).2 _ _ (by rw [z]; omega)]; simp [go_sem]
  · exact ((Below.refl w.heap.size w).alloc (Nat.le_refl _) _).trans (hB2.mono (by omega))
set_option maxRecDepth 100000 in
set_option maxHeartbeats 2000000 in
theorem Cos_good (n : Nat) (a b : Int) (w : World) (hn : n < 4096) (hc : Hid (cosP n = (a, b))) :
    Calls Tryz.prog 15 #[.int .i64 n] w fun e w' => e = .returned (.tuple #[.agg #[.int .i64 a, .int .i64 b], .int .i64 0]) ∧ Below w.heap.size w w' := by
  have hE : Hid (angE (n : Int) = 0) := Lib.hid (rngE_t (by simp [inB]; omega))
  obtain ⟨H, hH⟩ : ∃ H, Hid (hvV = H) := ⟨_, Lib.hid rfl⟩
  have lH : Hid (H.toArray.size = 44) := Lib.hid (by rw [← hH.out]; exact hvV_len)
  have oH : Hid (∀ v ∈ H, v.oneCell' = true) := Lib.hid (by rw [← hH.out]; exact hvV_one)
  have iH : Hid (((Tryz.prog).info? 114).map (·.size) = some H.toArray.size) := Lib.hid (by rw [lH.out]; kernel_rfl)
  have n4 : n ≤ 4096 := by omega
  clear hn
  go_enter Tryz.func15, Tryz.ntmps15
  go_upto_region 4 with ((go_at_call 65; ((with_reducible refine (cAngle_is _ 0 _ hE).mono ?_)); rintro e w' ⟨rfl, rfl⟩))
  go_upto_region 5 with (first
    | (go_at_call 66; refine (halved_is _ H hH).mono ?_; rintro e V ⟨rfl, hbV⟩)
    | (with_reducible refine wpList_store_mid rfl 114 _ _ rfl V.heap.size 0 H.toArray rfl rfl (th44 rfl lH.out) iH.out (all_oneCell_toArray oH.out) ?_))
  refine wp_world (CoS w V.heap.size) (co_start hH rfl (by simpa using hbV)) (fun X hX => ?_)
  have HX := Lib.hid hX
  clear hX hbV
  generalize V.heap.size = k at HX ⊢
  have HA : Hid (HvA X k 0) := Lib.hid HX.out.h
  have r0 := HX.out.r0
  have r1 := HX.out.r1
  have rf := HX.out.rf
  have nw := HX.out.nw
  have sz := HX.out.sz
  have hBX := HX.out.be
  have n1 : w.heap.size < X.heap.size := by omega
  go_wp2_with (go_at_call 67; refine (cosine_is k 0 n a b _ n4 sz HA hc).mono ?_; rintro e w1 ⟨rfl, hb1⟩; have s0 : w1.cell? ⟨w.heap.size, 0, none⟩ = some (.int .i64 0) := (hb1.cell (p := ⟨w.heap.size, 0, none⟩) n1).trans r0; have s1 : w1.cell? ⟨w.heap.size, 1, none⟩ = some (.int .i64 0) := (hb1.cell (p := ⟨w.heap.size, 1, none⟩) n1).trans r1; have sf : ∀ j, w1.frozen? ⟨w.heap.size, j, none⟩ = false := fun j => ((bcell hb1).2 _ _ n1).trans (rf j); have hB1 : Below w.heap.size w w1 := hBX.trans (hb1.mono (by omega)); clear hb1)
  refine bodyPost_ret (v := .tuple #[.agg #[.int .i64 a, .int .i64 b], .int .i64 0]) (by simp [results, Tryz.results15, go_sem, *]) rfl ⟨rfl, ?_⟩
  (repeat (first | (with_reducible refine Below.drew ?_) | (with_reducible refine below_drewN ?_ _) | (with_reducible refine Below.alloc ?_ (by first | omega | (simp; done) | (simp; omega) | (simp at *; omega)) _) | (with_reducible refine Below.setCell ?_ (by first | omega | (simp; done) | (simp; omega) | (simp at *; omega)) _) | (with_reducible exact Below.refl _ _) | (with_reducible assumption) | (with_reducible refine Below.trans ?_ (Below.mono (by assumption) (by first | omega | (simp; done) | (simp; omega) | (simp at *; omega))))))
end Go.Proofs.YtallnjehhoengaaGreat
