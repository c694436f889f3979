/- gas.Parse at a text of no gas: it is refused. -/
import Derived.Test.YtpagbkbaphjmdaaDoorRead2
import Derived.Outline
namespace Go.Proofs.YtpagbkbaphjmdaaDoor
open Go.ChangeShapes Go.WideShapes Go.ChangeAt Go.RowKit
set_option linter.unusedVariables false
set_option linter.unusedSimpArgs false

theorem neL {a b : ByteArray} (h : ¬ a = b) : (a.toList == b.toList) = false := by
  rw [Lib.toList_data, Lib.toList_data]
  refine beq_false_of_ne fun e => h ?_
  obtain ⟨⟨x⟩⟩ := a
  obtain ⟨⟨y⟩⟩ := b
  have e2 : x = y := e
  rw [e2]
/-- No gas has this text. -/
def NoGas (S : ByteArray) : Prop := ∀ o h, gasE o h = 0 → ¬ S = ⟨(fmtL o h).toArray⟩
theorem NoGas.names {S : ByteArray} (h : NoGas S) : ¬ S = nAir ∧ ¬ S = nOxy ∧ ¬ S = nHel :=
  ⟨fun e => h 210 0 (by decide) (e.trans rfl), fun e => h 1000 0 (by decide) (e.trans rfl), fun e => h 0 1000 (by decide) (e.trans rfl)⟩
set_option maxHeartbeats 1000000 in
theorem Parse_none (S : ByteArray) (w : World) (m : Int) (hm : w.cell? ⟨1, 0, none⟩ = some (.int .i64 m)) (hT : TabOk w) (hE : ErrOk w) (hl : S.size ≤ 900) (hno : NoGas S) :
    Calls Tryd.prog 7 #[.string S] w fun e w' => e = .returned (.tuple #[.agg #[.int .i64 0, .int .i64 0], .int .i64 7]) ∧ Below w.heap.size w w' := by
  have hlt := World.block_lt_of_cell? _ _ hm
  have hne : w.heap.size ≠ 1 := by simp at hlt; omega
  have hl2 : 1 < w.heap.size := by simpa using hlt
  have HT := Lib.hid hT
  have HE := Lib.hid hE
  have HN := Lib.hid hno
  clear hT hE hno
  go_enter Tryd.func7, Tryd.ntmps7
  go_wp2_with fail
  refine (read_ex S _ m (by simp [go_sem, World.cell?_alloc_past, *]) hl (HE.out.below (by (repeat (first | (with_reducible refine Below.drew ?_) | (with_reducible refine below_drewN ?_ _) | (with_reducible refine Below.alloc ?_ (by first | omega | (simp; done) | (simp; omega) | (simp at *; omega)) _) | (with_reducible refine Below.setCell ?_ (by first | omega | (simp; done) | (simp; omega) | (simp at *; omega)) _) | (with_reducible exact Below.refl _ _) | (with_reducible assumption) | (with_reducible refine Below.trans ?_ (Below.mono (by assumption) (by first | omega | (simp; done) | (simp; omega) | (simp at *; omega)))))))) HN.out.names.1 HN.out.names.2.1 HN.out.names.2.2).mono ?_
  rintro e w1 ⟨⟨N, K, b, rfl⟩, hbw1⟩
  obtain ⟨hbc1, hbf1⟩ := bcell hbw1
  have hbs1 := hbw1.size
  have c1 : w1.cell? ⟨w.heap.size, 0, none⟩ = some (.int .i64 0) := by rw [hbc1 _ _ (by simp)]; simp [go_sem]
  have c2 : w1.cell? ⟨w.heap.size, 1, none⟩ = some (.int .i64 0) := by rw [hbc1 _ _ (by simp)]; simp [go_sem]
  have c3 : ∀ j, w1.frozen? ⟨w.heap.size, j, none⟩ = false := by intro j; rw [hbf1 _ _ (by simp)]; simp [go_sem]
  have hB1 : Below w.heap.size w w1 := (by (repeat (first | (with_reducible refine Below.drew ?_) | (with_reducible refine below_drewN ?_ _) | (with_reducible refine Below.alloc ?_ (by first | omega | (simp; done) | (simp; omega) | (simp at *; omega)) _) | (with_reducible refine Below.setCell ?_ (by first | omega | (simp; done) | (simp; omega) | (simp at *; omega)) _) | (with_reducible exact Below.refl _ _) | (with_reducible assumption) | (with_reducible refine Below.trans ?_ (Below.mono (by assumption) (by first | omega | (simp; done) | (simp; omega) | (simp at *; omega)))))))
  have s1 : w.heap.size < w1.heap.size := by simp at hbs1; omega
  have s0 : w1.heap.size ≠ w.heap.size := by omega
  clear hbc1 hbf1 hbw1
  cases b
  · go_wp2
    refine bodyPost_ret (v := .tuple #[.agg #[.int .i64 0, .int .i64 0], .int .i64 7]) (by simp [results, Tryd.results7, go_sem, *]) rfl ⟨rfl, ?_⟩
    (repeat (first | (with_reducible refine Below.drew ?_) | (with_reducible refine below_drewN ?_ _) | (with_reducible refine Below.alloc ?_ (by first | omega | (simp; done) | (simp; omega) | (simp at *; omega)) _) | (with_reducible refine Below.setCell ?_ (by first | omega | (simp; done) | (simp; omega) | (simp at *; omega)) _) | (with_reducible exact Below.refl _ _) | (with_reducible assumption) | (with_reducible refine Below.trans ?_ (Below.mono (by assumption) (by first | omega | (simp; done) | (simp; omega) | (simp at *; omega))))))
  · rcases ez (gasE N K) with ⟨hg, hgb⟩ | ⟨hg, hgb⟩
    · obtain ⟨T, hTT⟩ : ∃ T : ByteArray, Hid (T = ⟨(fmtL N K).toArray⟩) := ⟨_, rfl⟩
      have HG : Hid (gasE N K = 0) := hg
      have e1 : (T == S) = false := neB fun e => HN.out N K HG.out (by rw [← e]; exact hTT.out)
      have e2 : (T != S) = true := by unfold bne; rw [e1]; rfl
      have e3 : (T.toList == S.toList) = false := neL fun e => HN.out N K HG.out (by rw [← e]; exact hTT.out)
      go_wp2_with fail
      refine (Format_is N K T _ HG.out (HT.out.below (by (repeat (first | (with_reducible refine Below.drew ?_) | (with_reducible refine below_drewN ?_ _) | (with_reducible refine Below.alloc ?_ (by first | omega | (simp; done) | (simp; omega) | (simp at *; omega)) _) | (with_reducible refine Below.setCell ?_ (by first | omega | (simp; done) | (simp; omega) | (simp at *; omega)) _) | (with_reducible exact Below.refl _ _) | (with_reducible assumption) | (with_reducible refine Below.trans ?_ (Below.mono (by assumption) (by first | omega | (simp; done) | (simp; omega) | (simp at *; omega)))))))) hTT).mono ?_
      rintro e w2 ⟨rfl, hbw2⟩
      obtain ⟨hbc2, hbf2⟩ := bcell hbw2
      have hbs2 := hbw2.size
      have d1 : w2.cell? ⟨w.heap.size, 0, none⟩ = some (.int .i64 0) := by rw [hbc2 _ _ (by simp; omega)]; simp [go_sem, World.cell?_alloc_past, *]
      have d2 : w2.cell? ⟨w.heap.size, 1, none⟩ = some (.int .i64 0) := by rw [hbc2 _ _ (by simp; omega)]; simp [go_sem, World.cell?_alloc_past, *]
      have d3 : ∀ j, w2.frozen? ⟨w.heap.size, j, none⟩ = false := by intro j; rw [hbf2 _ _ (by simp; omega)]; simp [go_sem, *]
      clear hbc2 hbf2
      go_wp2
      refine bodyPost_ret (v := .tuple #[.agg #[.int .i64 0, .int .i64 0], .int .i64 7]) (by simp [results, Tryd.results7, go_sem, *]) rfl ⟨rfl, ?_⟩
      (repeat (first | (with_reducible refine Below.drew ?_) | (with_reducible refine below_drewN ?_ _) | (with_reducible refine Below.alloc ?_ (by first | omega | (simp; done) | (simp; omega) | (simp at *; omega)) _) | (with_reducible refine Below.setCell ?_ (by first | omega | (simp; done) | (simp; omega) | (simp at *; omega)) _) | (with_reducible exact Below.refl _ _) | (with_reducible assumption) | (with_reducible refine Below.trans ?_ (Below.mono (by assumption) (by first | omega | (simp; done) | (simp; omega) | (simp at *; omega))))))
    · obtain ⟨c, hcc⟩ : ∃ c, Hid (gasE N K = c) := ⟨_, rfl⟩
      have hcb : (c != 0) = true := by rw [← hcc.out]; exact hgb
      go_wp2_with fail
      refine (Format_bad N K c _ hcc hcb).mono ?_
      rintro e w2 ⟨rfl, hbw2⟩
      obtain ⟨hbc2, hbf2⟩ := bcell hbw2
      have hbs2 := hbw2.size
      have d1 : w2.cell? ⟨w.heap.size, 0, none⟩ = some (.int .i64 0) := by rw [hbc2 _ _ (by simp; omega)]; simp [go_sem, World.cell?_alloc_past, *]
      have d2 : w2.cell? ⟨w.heap.size, 1, none⟩ = some (.int .i64 0) := by rw [hbc2 _ _ (by simp; omega)]; simp [go_sem, World.cell?_alloc_past, *]
      have d3 : ∀ j, w2.frozen? ⟨w.heap.size, j, none⟩ = false := by intro j; rw [hbf2 _ _ (by simp; omega)]; simp [go_sem, *]
      clear hbc2 hbf2
      go_wp2
      refine bodyPost_ret (v := .tuple #[.agg #[.int .i64 0, .int .i64 0], .int .i64 7]) (by simp [results, Tryd.results7, go_sem, *]) rfl ⟨rfl, ?_⟩
      (repeat (first | (with_reducible refine Below.drew ?_) | (with_reducible refine below_drewN ?_ _) | (with_reducible refine Below.alloc ?_ (by first | omega | (simp; done) | (simp; omega) | (simp at *; omega)) _) | (with_reducible refine Below.setCell ?_ (by first | omega | (simp; done) | (simp; omega) | (simp at *; omega)) _) | (with_reducible exact Below.refl _ _) | (with_reducible assumption) | (with_reducible refine Below.trans ?_ (Below.mono (by assumption) (by first | omega | (simp; done) | (simp; omega) | (simp at *; omega))))))
end Go.Proofs.YtpagbkbaphjmdaaDoor
