import Derived.Test.YtojaompfffpofaaGreatZCSTrip
import Derived.Outline
namespace Go.Proofs.YtojaompfffpofaaGreat
open Go.ChangeShapes Go.WideShapes Go.ChangeAt Go.RowKit
set_option linter.unusedVariables false
set_option linter.unusedSimpArgs false
attribute [local go_sem ↓] Go.wp_at_zero Go.wp_at_succ
/-- The ways behind a call. -/
def GoP (tb N : Nat) (T : List Tp) (w : World) (e : Ending) (w' : World) : Prop := e = .returned (.tuple #[]) ∧ TrAt w' tb N T ∧ BelowE tb w.heap.size w w'
theorem isE_t {L : List Int} (h : L = []) : L.isEmpty = true := by rw [h]; rfl
theorem isE_f {L : List Int} (h : L ≠ []) : L.isEmpty = false := by cases L with | nil => exact absurd rfl h | cons a r => rfl
theorem own_rows {α : Type} {f : α → List Value} {n : Nat} (hf : ∀ g, (f g).length = n) {w : World} {base : Nat} {e : TypeId} {v : Value} {L : List α} (h : w.ownsRow base e n v L.length (rowsV f L)) (hL : L ≠ []) : ∃ g cap, v = .slice (some ⟨g, 0, none⟩) L.length cap ∧ base ≤ g ∧ g < w.heap.size ∧ RowsAt f n w g 0 L := by
  rcases h.2 with ⟨rfl, h0⟩ | ⟨g, cap, cur, rfl, hb, hg, hle, hcap, hs, ht⟩
  · exact absurd (List.eq_nil_of_length_eq_zero h0) hL
  · refine ⟨g, cap, rfl, hb, (Array.getElem?_eq_some_iff.1 hg).1, ?_⟩
    intro k hk i hi
    have c := World.ownsRow.cells h (g := g) rfl
    have hlt : i < (f L[k]).length := by rw [hf]; exact hi
    have q := rowsV_at hf hk hi
    rw [List.getElem?_eq_getElem hlt] at q
    have r := c _ _ q
    rw [addNR] at r
    rw [show 0 + k * n + i = 0 + (k * n + i) by omega, r, List.getElem?_eq_getElem hlt]
theorem own_rowsC {α : Type} {f : α → List Value} {n : Nat} (hf : ∀ g, (f g).length = n) {w : World} {base : Nat} {e : TypeId} {v : Value} {L : List α} (h : w.ownsRow base e n v L.length (rowsV f L)) (hL : L ≠ []) : ∃ g cap, v = .slice (some ⟨g, 0, none⟩) L.length cap ∧ base ≤ g ∧ g < w.heap.size ∧ RowsAt f n w g 0 L ∧ L.length ≤ cap := by
  obtain ⟨g, cap, hv, h1, h2, h3⟩ := own_rows hf h hL
  refine ⟨g, cap, hv, h1, h2, h3, ?_⟩
  rcases h.2 with ⟨h9, _⟩ | ⟨g', cap', cur, h9, _, _, hle, _⟩
  · rw [hv] at h9; cases h9
  · rw [hv] at h9; cases h9; exact hle
set_option maxRecDepth 100000 in
set_option maxHeartbeats 4000000 in
theorem goOn_is (T : List Tp) (R : List Int) (tb b n cap N c rb ro rcap : Nat) (w : World) (hT : Hid (T.length = n)) (hR : Hid (R.length = n)) (hl : n ≤ 12) (hb : b < n) (HA : Hid (TrAt w tb N T)) (HBd : Hid (TpB c T)) (hc : c ≤ 5000) (HR : Hid (RowsAt intV 1 w rb ro R)) (hrb : rb < w.heap.size) (hrt : rb ≠ tb) (HX : Hid (∀ j, -1 ≤ R.getD j 0 ∧ R.getD j 0 ≤ 10000)) (hN : N ≤ w.heap.size) :
    Calls Tryz.prog 127 #[.slice (some ⟨tb, 0, none⟩) n cap, .int .i64 b, .slice (some ⟨rb, ro, none⟩) n rcap] w (GoP tb N (gOn T b R) w) := by
  obtain ⟨i0, hi, hz0, hz1, hz2⟩ := info_partsS infoIn
  have HI := Lib.hid hi
  have HZ0 := Lib.hid hz0
  have HZ1 := Lib.hid hz1
  have HZ2 := Lib.hid hz2
  clear hi hz0 hz1 hz2
  have bn : (b : Int) < (n : Int) := by omega
  have E0 := eqI0
  have E1 := eqI1
  obtain ⟨y1, y2⟩ := HA.out.row b (by have := hT.out; omega)
  rcases y2 with ⟨hp, y2⟩ | ⟨hp, g, gc, y2, gN, gt, gl, gR⟩
  · have HG : Hid (gOn T b R = T) := Lib.hid (by unfold gOn; rw [if_pos (isE_t hp)])
    clear hp y1
    go_enter Tryz.func127, Tryz.ntmps127
    go_wp2
    exact bodyPost_ret (v := .tuple #[]) (by simp [results, Tryz.results127, go_sem]) rfl ⟨rfl, by rw [HG.out]; exact HA.out, BelowE.refl _ _ _⟩
  have HG : Hid (gOn T b R = gRow T b R n) := Lib.hid (by unfold gOn; rw [if_neg (by rw [isE_f hp]; exact Bool.false_ne_true), hR.out])
  have HP := Lib.hid hp
  clear gR y1 hp
  go_enter Tryz.func127, Tryz.ntmps127
  go_wp2
  go_loopw [17] (fun i wr => ∃ k : Nat, k ≤ n ∧ i = .int .i64 k ∧ Hid (TrAt wr tb N (gRow T b R k)) ∧ Hid (BelowE tb w.heap.size w wr)) (fun i _ => n - (intOf i).toNat)
  case atStart => exact ⟨0, by omega, rfl, HA, Lib.hid (BelowE.refl _ _ _)⟩
  case round =>
    clear y2
    obtain ⟨k, hk, rfl, HAk, HBk⟩ := hrel
    have hsz := HBk.out.size
    by_cases hkn : k < n
    · have kn : (k : Int) < (n : Int) := by omega
      have hkR : k < R.length := by have := hR.out; omega
      have c0 := HR.out k hkR 0 (by omega)
      rw [show (intV R[k])[0]? = some (.int .i64 R[k]) from rfl, Nat.add_zero, Nat.mul_one, ← getD_at (d := 0) hkR] at c0
      have cr := (HBk.out.cell (b := rb) (i := ro + k) hrb hrt).trans c0
      have hx := HX.out k
      have hLk : (gRow T b R k).length = n := by rw [gRow_len]; exact hT.out
      have hnx : gRow T b R (k + 1) = gStep (gRow T b R k) b k (R.getD k 0) := rfl
      have hpb : ((gRow T b R k).getD b default).ps ≠ [] := gRow_ne HP.out k (by have := hT.out; omega)
      have hbk := HBd.out.row HX.out (b := b) k
      obtain ⟨S, hS⟩ : ∃ S, Hid (gRow T b R k = S) := ⟨_, Lib.hid rfl⟩
      rw [hS.out] at hLk hnx hpb hbk
      have HAS : Hid (TrAt wr tb N S) := Lib.hid (by rw [← hS.out]; exact HAk.out)
      obtain ⟨m, hm⟩ : ∃ m, Hid (R.getD k 0 = m) := ⟨_, Lib.hid rfl⟩
      rw [hm.out] at c0 cr hx hnx
      obtain ⟨x1, x2⟩ := hx
      obtain ⟨b1, b2, b3⟩ := hbk b
      obtain ⟨u1, u2⟩ := HAS.out.row b (by omega)
      obtain ⟨v1, v2⟩ := HAS.out.row k (by omega)
      have hlt := HAS.out.lt
      have hfr := HAS.out.fr
      have HNX := Lib.hid hnx
      have HLK := Lib.hid hLk
      rcases u2 with ⟨hpb0, _⟩ | ⟨_, gb, gbc, u2, gbN, gbt, gbl, gbR, _⟩
      · exact absurd hpb0 hpb
      have HPB := Lib.hid hpb
      have HGBR := Lib.hid gbR
      clear hnx hpb hbk c0 hLk gbR
      obtain ⟨P, hP⟩ : ∃ P, Hid ((S.getD b default).ps = P) := ⟨_, Lib.hid rfl⟩
      obtain ⟨p, hp⟩ : ∃ p : Nat, Hid (P.length = p) := ⟨_, Lib.hid rfl⟩
      obtain ⟨mi, hmi⟩ : ∃ mi, Hid ((S.getD b default).mi = mi) := ⟨_, Lib.hid rfl⟩
      obtain ⟨mk, hmk⟩ : ∃ mk, Hid ((S.getD k default).mi = mk) := ⟨_, Lib.hid rfl⟩
      rw [hP.out, hp.out] at u2
      rw [hP.out, hp.out] at b1
      rw [hmi.out] at u1 b2 b3
      rw [hmk.out] at v1
      rw [hP.out] at HPB HGBR
      have w1 : IntKind.i64.wrap (mi + m) = mi + m := IntWalk.i64_in _ (by omega)
      -- nothing is taken
      have stay : Hid (gTake S b k m = false) → Hid (TrAt wr tb N (gRow T b R (k + 1))) := fun h => Lib.hid (by rw [HNX.out, gStep, if_neg (by rw [h.out]; exact Bool.false_ne_true)]; exact HAS.out)
      have STAY := Lib.hid stay
      -- it is taken
      have take : Hid (gTake S b k m = true) → ∀ (x5 : World) (g5 cap5 : Nat), Below wr.heap.size wr x5 → wr.heap.size ≤ g5 → g5 < x5.heap.size → RowsAt intV 1 x5 g5 0 (P ++ [(k : Int)]) → p + 1 ≤ cap5 → TrAt ((x5.setCell ⟨tb, k * 2, none⟩ (.slice (some ⟨g5, 0, none⟩) (p + 1) cap5)).setCell ⟨tb, k * 2 + 1, none⟩ (.int .i64 (mi + m))) tb N (gRow T b R (k + 1)) ∧ BelowE tb w.heap.size w ((x5.setCell ⟨tb, k * 2, none⟩ (.slice (some ⟨g5, 0, none⟩) (p + 1) cap5)).setCell ⟨tb, k * 2 + 1, none⟩ (.int .i64 (mi + m))) := fun h x5 g5 cap5 hb5 hg5 hl5 hr5 hc5 => by
        have e1 : gRow T b R (k + 1) = S.set k ⟨P ++ [(k : Int)], mi + m⟩ := by rw [HNX.out, gStep, if_pos h.out, hP.out, hmi.out]
        rw [e1]
        refine ⟨(HAS.out.below hb5).set (by rw [HLK.out]; exact hkn) (by rw [List.length_append, hp.out]; rfl) (by simp) (by omega) (by omega) hl5 hr5 hc5, ?_⟩
        refine (HBk.out.trans (BelowE.of hb5 hsz)).trans ⟨rfl, rfl, rfl, by simp, fun i hi hne => ?_⟩
        rw [Below.heap_setCell _ _ _ _ hne, Below.heap_setCell _ _ _ _ hne]
      have TAKE := Lib.hid take
      clear stay take HAk
      by_cases e : m = -1
      · subst e
        have HS := STAY.out (Lib.hid (by unfold gTake; simp))
        clear v2 w1
        go_wp2
        go_roundw
        case rel => exact ⟨k + 1, by omega, by go_num, HS, HBk⟩
        case measure => (simp [intOf]) <;> omega
      have m0 : 0 ≤ m := by omega
      have n1 : (m == -1) = false := by simpa using e
      have n2 : (m != -1) = true := by simp [n1, bne]
      have hnew := HPB.out
      by_cases hq : (S.getD k default).ps = [] ∨ mi + m < mk
      · have HT : Hid (gTake S b k m = true) := Lib.hid (by
          unfold gTake
          rw [n1, hmi.out, hmk.out]
          rcases hq with h | h
          · rw [isE_t h]; simp
          · rw [decide_eq_true h]; simp)
        have hclo := cloneInt_is P gb gbc p
        have HCLO := Lib.hid hclo
        clear hclo hnew
        have hv2 : (w' : World) → w' = wr → ((w'.cell? ⟨tb, k * 2, none⟩ = some (.slice none 0 0)) ∨ (∃ g cap l, w'.cell? ⟨tb, k * 2, none⟩ = some (.slice (some ⟨g, 0, none⟩) l cap) ∧ mi + m < mk)) := by
          intro w' hw; subst hw
          rcases v2 with ⟨h1, h2⟩ | ⟨h1, g, cp, h2, _⟩
          · exact Or.inl h2
          · rcases hq with h | h
            · exact absurd h h1
            · exact Or.inr ⟨g, cp, _, h2, h⟩
        rcases hv2 wr rfl with v3 | ⟨gg, gcap, ll, v3, hlt2⟩
        all_goals
          clear hv2 v2 hq
          go_wp2_with fail
          refine (HCLO.out _ (Lib.hid hp.out.symm) (by omega) gbl HGBR).mono ?_
          rintro e x1 ⟨v, rfl, hown, hb1⟩
          have s1 := hb1.size
          have HO1 := Lib.hid hown
          have HB1 := Lib.hid hb1
          clear hown hb1
          go_wp2_with (at_builtin; refine wpList_append_own_at _ rfl _ _ 81 rfl wr.heap.size 3 i0 (.int .i64 0) 1 8 Tryz.underlying81 HI.out HZ0.out HZ1.out HZ2.out rfl (by decide) _ _ _ rfl (own_below (N := x1.heap.size) HO1.out (by exact (by (repeat (first | (with_reducible refine Below.drew ?_) | (with_reducible refine below_drewN ?_ _) | (with_reducible refine Below.alloc ?_ (by first | omega | (simp; done) | (simp; omega) | (simp at *; omega)) _) | (with_reducible refine Below.setCell ?_ (by first | omega | (simp; done) | (simp; omega) | (simp at *; omega)) _) | (with_reducible exact Below.refl _ _) | (with_reducible assumption) | (with_reducible refine Below.trans ?_ (Below.mono (by assumption) (by first | omega | (simp; done) | (simp; omega) | (simp at *; omega)))))))) (Nat.le_refl _)) ⟨x1.heap.size, 0, none⟩ 1 1 [.int .i64 k] rfl rfl ?a0 ?a1 ?a2 ?a3 ?a4 ?_)
          case a0 =>
            intro j v hj
            match j, hj with
            | 0, hj => simp at hj; subst hj; simp [Addr.add, go_sem]
          case a1 => intro v hv; simp at hv; rw [hv]; rfl
          case a2 => unfold maxLen; omega
          case a3 => omega
          case a4 => simp; omega
          intro v' x5 hown hgrow hnn hblk
          have hb1 := HB1.out
          have hB5 : Below wr.heap.size wr x5 := Below.grown (by exact (by (repeat (first | (with_reducible refine Below.drew ?_) | (with_reducible refine below_drewN ?_ _) | (with_reducible refine Below.alloc ?_ (by first | omega | (simp; done) | (simp; omega) | (simp at *; omega)) _) | (with_reducible refine Below.setCell ?_ (by first | omega | (simp; done) | (simp; omega) | (simp at *; omega)) _) | (with_reducible exact Below.refl _ _) | (with_reducible assumption) | (with_reducible refine Below.trans ?_ (Below.mono (by assumption) (by first | omega | (simp; done) | (simp; omega) | (simp at *; omega)))))))) hgrow (by simp; omega) (fun r hr => (own_block HO1.out r hr).1)
          have hown2 : x5.ownsRow wr.heap.size 3 1 v' (P ++ [(k : Int)]).length (rowsV intV (P ++ [(k : Int)])) := by rw [rowsV_app, List.length_append, hp.out]; exact hown
          obtain ⟨g5, cap5, hv5, hg5, hl5, hr5, hc5⟩ := own_rowsC (f := intV) (n := 1) (fun _ => rfl) hown2 (by simp)
          rw [List.length_append, hp.out] at hv5 hc5
          simp only [List.length_cons, List.length_nil, Nat.zero_add] at hv5 hc5
          subst hv5
          have HTK := Lib.hid (TAKE.out HT x5 g5 cap5 hB5 hg5 hl5 hr5 hc5)
          have d1 := (hB5.cell (p := ⟨tb, k * 2, none⟩) hlt).trans v3
          have d2 := (hB5.cell (p := ⟨tb, k * 2 + 1, none⟩) hlt).trans v1
          have d3 : ∀ j, x5.frozen? ⟨tb, j, none⟩ = false := fun j => (hB5.frozen (p := ⟨tb, j, none⟩) hlt).trans (hfr j)
          clear hown hown2 hgrow hnn hblk hb1 hB5 hg5 hl5 hr5 hc5 hfr
          go_wp2
          go_roundw
          case rel => exact ⟨k + 1, by omega, by go_num, Lib.hid HTK.out.1, Lib.hid HTK.out.2⟩
          case measure => (simp [intOf]) <;> omega
      · have HT : Hid (gTake S b k m = false) := Lib.hid (by
          unfold gTake
          rw [n1, hmi.out, hmk.out, isE_f (fun h => hq (Or.inl h)), decide_eq_false (fun h => hq (Or.inr h))]; rfl)
        have HS := STAY.out HT
        rcases v2 with ⟨h1, h2⟩ | ⟨h1, gg, gcap, v3, _⟩
        · exact absurd (Or.inl h1) hq
        have hlt2 : ¬ mi + m < mk := fun h => hq (Or.inr h)
        generalize (S.getD k default).ps.length = ll at *
        clear hq h1
        go_wp2
        go_roundw
        case rel => exact ⟨k + 1, by omega, by go_num, HS, HBk⟩
        case measure => (simp [intOf]) <;> omega
    · have hkk : k = n := by omega
      have HF : Hid (gOn T b R = gRow T b R k) := Lib.hid (by rw [hkk]; exact HG.out)
      clear hkk
      go_wp2
      exact bodyPost_ret (v := .tuple #[]) (by simp [results, Tryz.results127, go_sem]) rfl ⟨rfl, by rw [HF.out]; exact HAk.out, HBk.out⟩
end Go.Proofs.YtojaompfffpofaaGreat
