import Derived.Test.YtchfhhmmjioajaaZFTFollE
import Derived.Test.YtchfhhmmjioajaaZFTLoadN
import Derived.Test.YtchfhhmmjioajaaZFMRefRoots
import Derived.Maps.AppendAt
import Derived.OwnWalk
import Derived.Deep.DrawnRows
import Derived.Outline
namespace Go.Proofs.Ytchfhhmmjioajaa
open Go.ChangeShapes Go.WideShapes Go.ChangeAt Go.RowKit
set_option linter.unusedVariables false
set_option linter.unusedSimpArgs false
attribute [local go_sem ↓] Go.wp_at_zero Go.wp_at_succ
/-- A list of slices of n loads each, the j-th holding F (j + 1), none of them in a block. -/
def SlS (n : Nat) (V : World) (xs : List Value) (F : Nat → List Ld) (g : Option Nat) : Prop := ∀ j, j < xs.length → ∃ q qf qc, xs[j]? = some (.slice (some ⟨q, qf, none⟩) n qc) ∧ q < V.heap.size ∧ some q ≠ g ∧ LdAt V q qf (F (j + 1))
theorem SlS.below {n : Nat} {V V' : World} {xs : List Value} {F : Nat → List Ld} {g : Option Nat} (hs : SlS n V xs F g) (hb : Below V.heap.size V V') : SlS n V' xs F g := fun j hj => by
  obtain ⟨q, qf, qc, h1, h2, h3, h4⟩ := hs j hj
  exact ⟨q, qf, qc, h1, Nat.lt_of_lt_of_le h2 hb.size, h3, h4.below hb h2⟩
/-- One more: its own block is new, and so is the block of the row, if it turned. -/
theorem SlS.push {n : Nat} {V V' : World} {xs : List Value} {F : Nat → List Ld} {v v' : Value} {q qf qc : Nat} (hs : SlS n V xs F v.ownBlock) (hg : V.grownBy V' v.ownBlock) (hn : v'.ownBlock = v.ownBlock ∨ v'.ownBlock = some V.heap.size) (hq : q < V.heap.size) (hqv : some q ≠ v.ownBlock) (hL : LdAt V q qf (F (xs.length + 1))) :
    SlS n V' (xs ++ [.slice (some ⟨q, qf, none⟩) n qc]) F v'.ownBlock ∧ LdAt V' q qf (F (xs.length + 1)) ∧ some q ≠ v'.ownBlock := by
  have hz : V.heap.size ≤ V'.heap.size := hg.size
  have ne : ∀ r, r < V.heap.size → some r ≠ v.ownBlock → some r ≠ v'.ownBlock := fun r hr h1 => by
    rcases hn with h2 | h2
    · rw [h2]; exact h1
    · rw [h2]; intro h3; injection h3; omega
  have hLq : LdAt V' q qf (F (xs.length + 1)) := hL.blk (hg.block q hq hqv)
  refine ⟨fun j hj => ?_, hLq, ne q hq hqv⟩
  by_cases hjx : j < xs.length
  · obtain ⟨r, rf, rc, h1, h2, h3, h4⟩ := hs j hjx
    exact ⟨r, rf, rc, by rw [List.getElem?_append_left hjx]; exact h1, by omega, ne r h2 h3, h4.blk (hg.block r h2 h3)⟩
  · have hje : j = xs.length := by simp at hj; omega
    subst hje
    exact ⟨q, qf, qc, by simp, by omega, ne q hq hqv, hLq⟩
theorem infoSl : (Try.prog.info? 36).map (fun i => (i.zero, i.size, i.bytes)) = some (some (.slice none 0 0), 1, 24) := by kernel_rfl
/-- The slices behind the legs came back. -/
def FollG (n m : Nat) (F : Nat → List Ld) (w : World) (e : Ending) (w' : World) : Prop := ∃ v xs, e = .returned (.tuple #[v, .int .i64 0]) ∧ w'.ownsRow w.heap.size 36 1 v m xs ∧ SlS n w' xs F v.ownBlock ∧ Below w.heap.size w w'
set_option maxRecDepth 100000 in
set_option maxHeartbeats 2000000 in
theorem Followed_bad (T : List Cm) (L : List Ld) (G : List Tl) (A B C : Option Addr) (cap cap' capg : Nat) (fi E1 E2 E : Int) (w : World) (hl : T.length ≤ 1000000) (hl' : L.length ≤ 1000000) (hlg : G.length ≤ 1000000) (h1 : Hid (loadsE T L = E1)) (h2 : Hid (clE G = E2)) (hE : Hid (firE [E1, E2, rngE fi 0 6] = E)) (hz : (E != 0) = true) (hT : SlCm w A T) (hL : SlLd w B L) (hG : SlTl w C G) :
    Calls Try.prog 42 #[.slice A T.length cap, .slice B L.length cap', .slice C G.length capg, .int .i64 fi] w fun e w' => e = .returned (.tuple #[.slice none 0 0, .int .i64 E]) ∧ Below w.heap.size w w' := by
  have HT := Lib.hid hT
  have HL := Lib.hid hL
  have HG := Lib.hid hG
  clear hT hL hG
  go_enter Try.func42, Try.ntmps42
  go_wp2_with fail
  refine (CheckLoads_is T L A B cap cap' E1 _ hl hl' h1 (HT.out.below (by exact (by (repeat (first | (with_reducible refine Below.drew ?_) | (with_reducible refine below_drewN ?_ _) | (with_reducible refine Below.alloc ?_ (by first | omega | (simp; done) | (simp; omega) | (simp at *; omega)) _) | (with_reducible refine Below.setCell ?_ (by first | omega | (simp; done) | (simp; omega) | (simp at *; omega)) _) | (with_reducible exact Below.refl _ _) | (with_reducible assumption) | (with_reducible refine Below.trans ?_ (Below.mono (by assumption) (by first | omega | (simp; done) | (simp; omega) | (simp at *; omega))))))))) (HL.out.below (by exact (by (repeat (first | (with_reducible refine Below.drew ?_) | (with_reducible refine below_drewN ?_ _) | (with_reducible refine Below.alloc ?_ (by first | omega | (simp; done) | (simp; omega) | (simp at *; omega)) _) | (with_reducible refine Below.setCell ?_ (by first | omega | (simp; done) | (simp; omega) | (simp at *; omega)) _) | (with_reducible exact Below.refl _ _) | (with_reducible assumption) | (with_reducible refine Below.trans ?_ (Below.mono (by assumption) (by first | omega | (simp; done) | (simp; omega) | (simp at *; omega)))))))))).mono ?_
  rintro e v1 ⟨rfl, hb1⟩
  have hB1 : Below w.heap.size w v1 := (by (repeat (first | (with_reducible refine Below.drew ?_) | (with_reducible refine below_drewN ?_ _) | (with_reducible refine Below.alloc ?_ (by first | omega | (simp; done) | (simp; omega) | (simp at *; omega)) _) | (with_reducible refine Below.setCell ?_ (by first | omega | (simp; done) | (simp; omega) | (simp at *; omega)) _) | (with_reducible exact Below.refl _ _) | (with_reducible assumption) | (with_reducible refine Below.trans ?_ (Below.mono (by assumption) (by first | omega | (simp; done) | (simp; omega) | (simp at *; omega)))))))
  clear hb1
  go_wp2_with fail
  refine (checkLegs_is G C capg E2 _ hlg h2 (HG.out.below hB1)).mono ?_
  rintro e v2 ⟨rfl, hb2⟩
  have hB2 : Below w.heap.size w v2 := hB1.trans (hb2.mono hB1.size)
  clear hb2
  go_wp2_with (first | (go_at_call 88; ((with_reducible refine (tcheckFine_any _ _).mono ?_)); rintro e w' ⟨rfl, rfl⟩) | (go_at_call 73; ((with_reducible refine (cF3g _ _ _ E _ _ hE (by simp [go_sem]) (by simp [go_sem]) (by simp [go_sem])).mono ?_)); rintro e w' ⟨rfl, rfl⟩))
  go_ret2
  exact ⟨rfl, hB2.alloc hB2.size _⟩
set_option maxRecDepth 100000 in
set_option maxHeartbeats 4000000 in
theorem Followed_good (T : List Cm) (L : List Ld) (G : List Tl) (A B C : Option Addr) (cap cap' capg : Nat) (n m : Nat) (w : World) (hm : L.length = m) (h1 : Hid (loadsE T L = 0)) (h2 : Hid (clE G = 0)) (hn : n ≤ 6) (hT : SlCm w A T) (hL : SlLd w B L) (hG : SlTl w C G) :
    Calls Try.prog 42 #[.slice A T.length cap, .slice B m cap', .slice C G.length capg, .int .i64 n] w (FollG T.length G.length (fol T n L G) w) := by
  have hF := Lib.hid (fit_of h1.out)
  have hm' : m = T.length := by rw [← hm]; exact hF.out.len
  subst hm'
  have ho := hF.out.one
  have hmo := hF.out.most
  have hlg : G.length ≤ 200 := by
    have := h2.out
    unfold clE at this
    split at this
    · cases this
    · omega
  have hgz : fstE tlE G = 0 := by
    have := h2.out
    unfold clE at this
    rw [if_neg (by omega)] at this
    exact this
  have HGE : Hid (∀ k, (hk : k < G.length) → tlE G[k] = 0) := fstE_all hgz
  have HFIT : Hid (∀ k, k ≤ G.length → loadsE T (fol T n L G k) = 0) := fol_fit h1.out hgz hn
  have CL : Hid (∀ w', Below w.heap.size w w' → Calls Try.prog 22 #[.slice A T.length cap, .slice B T.length cap'] w' fun e w'' => e = .returned (.int .i64 0) ∧ Below w'.heap.size w' w'') := fun w' hb => CheckLoads_g T L T.length A B cap cap' 0 w' hm (by omega) (by omega) h1 (hT.below hb) (hL.below hb)
  rcases hT with hz | ⟨tb, tq, rfl, htb, hTT⟩
  · rw [hz] at ho; simp at ho
  rcases hL with hz | ⟨q0, qo, rfl, hq0, hLL⟩
  · rw [hz] at hm; simp at hm; omega
  have HTT := Lib.hid hTT
  have HLL := Lib.hid hLL
  have HG := Lib.hid hG
  have HT0 : Hid (TbOk T) := Lib.hid (tb_of hF.out)
  have hE : Hid (firE [0, 0, rngE (n : Int) 0 6] = 0) := by
    show _ = _
    rw [rngE_t (inB_true (by omega) (by omega))]; rfl
  obtain ⟨i0, hi, hz0, hz1, hz2⟩ := info_parts infoSl
  have HIf := Lib.hid hi
  have HZ0 := Lib.hid hz0
  have HZ1 := Lib.hid hz1
  have HZ2 := Lib.hid hz2
  clear hi hz0 hz1 hz2 hTT hLL hG hgz hm ho
  go_enter Try.func42, Try.ntmps42
  go_wp2_with fail
  refine (CL.out _ (by exact (by (repeat (first | (with_reducible refine Below.drew ?_) | (with_reducible refine below_drewN ?_ _) | (with_reducible refine Below.alloc ?_ (by first | omega | (simp; done) | (simp; omega) | (simp at *; omega)) _) | (with_reducible refine Below.setCell ?_ (by first | omega | (simp; done) | (simp; omega) | (simp at *; omega)) _) | (with_reducible exact Below.refl _ _) | (with_reducible assumption) | (with_reducible refine Below.trans ?_ (Below.mono (by assumption) (by first | omega | (simp; done) | (simp; omega) | (simp at *; omega))))))))).mono ?_
  rintro e v1 ⟨rfl, hb1⟩
  have hB1 : Below w.heap.size w v1 := (by (repeat (first | (with_reducible refine Below.drew ?_) | (with_reducible refine below_drewN ?_ _) | (with_reducible refine Below.alloc ?_ (by first | omega | (simp; done) | (simp; omega) | (simp at *; omega)) _) | (with_reducible refine Below.setCell ?_ (by first | omega | (simp; done) | (simp; omega) | (simp at *; omega)) _) | (with_reducible exact Below.refl _ _) | (with_reducible assumption) | (with_reducible refine Below.trans ?_ (Below.mono (by assumption) (by first | omega | (simp; done) | (simp; omega) | (simp at *; omega)))))))
  clear hb1
  go_wp2_with fail
  refine (checkLegs_is G C capg 0 _ (by omega) h2 (HG.out.below hB1)).mono ?_
  rintro e v2 ⟨rfl, hb2⟩
  have hB2 : Below w.heap.size w v2 := hB1.trans (hb2.mono hB1.size)
  clear hb2
  go_wp2_with (first | (go_at_call 88; ((with_reducible refine (tcheckFine_any _ _).mono ?_)); rintro e w' ⟨rfl, rfl⟩) | (go_at_call 73; ((with_reducible refine (cF3g _ _ _ 0 _ _ hE (by simp [go_sem]) (by simp [go_sem]) (by simp [go_sem])).mono ?_)); rintro e w' ⟨rfl, rfl⟩))
  generalize hw3 : v2.alloc (.cells #[.int .i64 0, .int .i64 0, .int .i64 (rngE (n : Int) 0 6)] 25) = w3
  have hB3 : Below w.heap.size w w3 := by rw [← hw3]; exact hB2.alloc hB2.size _
  clear hw3 hB1 hB2
  have hz3 := hB3.size
  go_loopw [1, 11, 28] (fun l v i wr => ∃ (k q qf qc : Nat) (xs : List Value), i = .int .i64 k ∧ k ≤ G.length ∧ l = .slice (some ⟨q, qf, none⟩) T.length qc ∧ q < wr.heap.size ∧ Hid (LdAt wr q qf (fol T n L G k) ∧ some q ≠ v.ownBlock) ∧ Hid (wr.ownsRow w3.heap.size 36 1 v k xs) ∧ Hid (SlS T.length wr xs (fol T n L G) v.ownBlock) ∧ Below w3.heap.size w3 wr) (fun _ _ i _ => G.length - (intOf i).toNat)
  case atStart => exact ⟨0, q0, qo, cap', [], rfl, by omega, rfl, by omega, Lib.hid ⟨HLL.out.blk (hB3.block q0 hq0), by intro k; cases k⟩, Lib.hid (World.ownsRow_nil _ _ _ _), Lib.hid (fun j hj => by simp at hj), Below.refl _ _⟩
  case round =>
    obtain ⟨k, q, qf, qc, xs, rfl, hk, rfl, hql, HQ, HO, HS, hB⟩ := hrel
    have sz := hB.size
    have hBW : Below w.heap.size w wr := hB3.trans (hB.mono hz3)
    by_cases hkl : k < G.length
    · have hkl2 : (k : Int) < G.length := by omega
      rcases (HG.out.below hBW : SlTl wr C G) with hnil | ⟨gb, go', hCC, glt, GL⟩
      · rw [hnil] at hkl; simp at hkl
      subst hCC
      obtain ⟨c0, c1, c2, c3, c4⟩ := GL k hkl
      have hlz := HGE.out k hkl
      unfold tlE at hlz
      obtain ⟨p0, e0⟩ : ∃ x, Hid (G[k].f = x) := ⟨_, Lib.hid rfl⟩
      obtain ⟨p1, e1⟩ : ∃ x, Hid (G[k].t = x) := ⟨_, Lib.hid rfl⟩
      obtain ⟨p2, e2⟩ : ∃ x, Hid (G[k].s = x) := ⟨_, Lib.hid rfl⟩
      obtain ⟨p3, e3⟩ : ∃ x, Hid (G[k].o = x) := ⟨_, Lib.hid rfl⟩
      obtain ⟨p4, e4⟩ : ∃ x, Hid (G[k].h = x) := ⟨_, Lib.hid rfl⟩
      rw [e0.out] at c0 hlz; rw [e1.out] at c1 hlz; rw [e2.out] at c2 hlz; rw [e3.out] at c3 hlz; rw [e4.out] at c4 hlz
      have HLG : Hid (LegOk p0 p1 p2 p3 p4 n) := by
        obtain ⟨a, b, c, d⟩ := leg_of hlz
        exact Lib.hid ⟨a, b, c, d, hn⟩
      have hfk := fit_of (HFIT.out k hk)
      have HP0 : Hid ((fol T n L G k).length = T.length ∧ LdOk (fol T n L G k)) := Lib.hid ⟨hfk.len, ldok_of hfk⟩
      have HPE : Hid (ldR p0 p1 p2 n p3 p4 T (fol T n L G k) (stK p2 n) = fol T n L G (k + 1)) := by
        show _ = _
        rw [← e0.out, ← e1.out, ← e2.out, ← e3.out, ← e4.out]
        conv => rhs; unfold fol
        rw [getD_of hkl]
      have HEND := Lib.hid (fun (u : World) (hb : Below wr.heap.size wr u) => end_any p0 p1 p2 p3 p4 n (stK p2 n) T (fol T n L G k) tb tq cap q qf qc u (Nat.lt_of_lt_of_le (Nat.lt_of_lt_of_le htb hBW.size) hb.size) (Nat.lt_of_lt_of_le hql hb.size) (HTT.out.blk ((hb.block tb (Nat.lt_of_lt_of_le htb hBW.size)).trans (hBW.block tb htb))) (HQ.out.1.blk (hb.block q hql)) HLG HT0 HP0 (Lib.hid ⟨stN_K p2 n, rfl⟩))
      clear GL hlz e0 e1 e2 e3 e4 hfk
      go_wp2_with fail
      refine (HEND.out _ (by exact (by (repeat (first | (with_reducible refine Below.drew ?_) | (with_reducible refine below_drewN ?_ _) | (with_reducible refine Below.alloc ?_ (by first | omega | (simp; done) | (simp; omega) | (simp at *; omega)) _) | (with_reducible refine Below.setCell ?_ (by first | omega | (simp; done) | (simp; omega) | (simp at *; omega)) _) | (with_reducible exact Below.refl _ _) | (with_reducible assumption) | (with_reducible refine Below.trans ?_ (Below.mono (by assumption) (by first | omega | (simp; done) | (simp; omega) | (simp at *; omega))))))))).mono ?_
      rintro e u1 ⟨q', qf', qc', rfl, g1, g2, g3, hb⟩
      have hU : Below wr.heap.size wr u1 := by
        refine Below.trans ?_ (hb.mono ?_)
        · exact (by (repeat (first | (with_reducible refine Below.drew ?_) | (with_reducible refine below_drewN ?_ _) | (with_reducible refine Below.alloc ?_ (by first | omega | (simp; done) | (simp; omega) | (simp at *; omega)) _) | (with_reducible refine Below.setCell ?_ (by first | omega | (simp; done) | (simp; omega) | (simp at *; omega)) _) | (with_reducible exact Below.refl _ _) | (with_reducible assumption) | (with_reducible refine Below.trans ?_ (Below.mono (by assumption) (by first | omega | (simp; done) | (simp; omega) | (simp at *; omega)))))))
        · simp
      have hqn : wr.heap.size ≤ q' := by have := g1; simp at this; omega
      have HE3 := Lib.hid (show LdAt u1 q' qf' (fol T n L G (k + 1)) by rw [← HPE.out]; exact g3)
      have HOu : Hid (u1.ownsRow w3.heap.size 36 1 _ k xs) := own_below HO.out hU (Nat.le_refl _)
      have HSu : Hid (SlS T.length u1 xs (fol T n L G) _) := Lib.hid (HS.out.below hU)
      have hlen : Hid (xs.length = k) := Lib.hid (by have := HO.out.1; omega)
      have hqo : Hid (some q' ≠ Value.ownBlock _) := Lib.hid (fun hc => by have := (HO.out.lt q' hc.symm).2; omega)
      have szu : w3.heap.size ≤ u1.heap.size := by have := hU.size; omega
      have hBu : Below w3.heap.size w3 u1 := hB.trans (hU.mono sz)
      clear g1 g3 hb HEND HPE HP0 HLG c0 c1 c2 c3 c4 HQ HO HS hU
      go_wp2_with (at_builtin; go_loud (refine wpList_append_own_at _ rfl _ _ 70 rfl w3.heap.size 36 i0 (.slice none 0 0) 1 24 Try.underlying70 HIf.out HZ0.out HZ1.out HZ2.out rfl (by decide) _ _ _ rfl (HOu.out.alloc _) ⟨u1.heap.size, 0, none⟩ 1 1 [.slice (some ⟨q', qf', none⟩) T.length qc'] rfl rfl ?c0 ?c1 ?c2 ?c3 ?c4 ?_))
      case c0 =>
        intro j u hj
        match j, hj with
        | 0, hj => simp at hj; subst hj; simp [Addr.add, go_sem]
      case c1 => intro u hu; simp at hu; rcases hu with rfl; rfl
      case c2 => unfold maxLen; omega
      case c3 => omega
      case c4 => simp; omega
      intro v' wa hown hgrow hnn hblk
      have hal : Below u1.heap.size u1 (u1.alloc (.cells #[.slice (some ⟨q', qf', none⟩) T.length qc'] 36)) := (Below.refl _ _).alloc (Nat.le_refl _) _
      have hBa : Below w3.heap.size w3 wa := hBu.trans ((hal.mono szu).grown hgrow (by simp; omega) (fun r hr => (HOu.out.lt r hr).1))
      have hpu := (HSu.out.below hal).push (v' := v') (qc := qc') hgrow (by rw [World.size_alloc]; exact hblk) (show q' < _ by simp; omega) hqo.out (by rw [hlen.out]; exact HE3.out.below hal g2)
      rw [hlen.out] at hpu
      have HO2 := Lib.hid hown
      have HP2 := Lib.hid hpu
      have hqa : q' < wa.heap.size := by have := hgrow.size; simp at this; omega
      clear hown hgrow hnn hblk hpu HOu HSu HE3 hqo hBu hal
      go_wp2
      go_roundw
      case rel => exact ⟨k + 1, q', qf', qc', xs ++ [.slice (some ⟨q', qf', none⟩) T.length qc'], by go_num, by omega, rfl, hqa, Lib.hid ⟨HP2.out.2.1, HP2.out.2.2⟩, HO2, Lib.hid HP2.out.1, hBa⟩
      case measure => (simp [intOf]) <;> omega
    · have hkl2 : ¬ (k : Int) < G.length := by omega
      have HKK := Lib.hid (show k = G.length by omega)
      clear hkl hk
      go_wp2
      go_ret2
      refine ⟨_, xs, rfl, ?_, HS.out, hBW⟩
      have := HO.out
      rw [HKK.out] at this
      exact ⟨this.1, this.2.imp id (fun ⟨g, c, cur, a, b, r⟩ => ⟨g, c, cur, a, by omega, r⟩)⟩
end Go.Proofs.Ytchfhhmmjioajaa
