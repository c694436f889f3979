import Derived.Test.YtojaompfffpofaaGreatZOSWofI
import Derived.Test.YtojaompfffpofaaGreatZOSUniq
import Derived.Outline
namespace Go.Proofs.YtojaompfffpofaaGreat
open Go.ChangeShapes Go.WideShapes Go.ChangeAt Go.RowKit
set_option linter.unusedVariables false
set_option linter.unusedSimpArgs false
attribute [local go_sem ↓] Go.wp_at_zero Go.wp_at_succ
structure WiS (a b : Int) (F : Value) (w X : World) : Prop where
  c0 : X.cell? ⟨w.heap.size, 0, none⟩ = some (.int .i64 a)
  c1 : X.cell? ⟨w.heap.size, 1, none⟩ = some (.int .i64 b)
  c2 : X.cell? ⟨w.heap.size + 1, 0, none⟩ = some F
  be : Below w.heap.size w X
  lt : w.heap.size + 1 < X.heap.size
theorem WiS.below {a b : Int} {F : Value} {w X X' : World} (h : WiS a b F w X) (hb : Below X.heap.size X X') : WiS a b F w X' := by
  have z := hb.size
  have l := h.lt
  have l0 : w.heap.size < X.heap.size := by omega
  exact ⟨(hb.cell (p := ⟨w.heap.size, 0, none⟩) l0).trans h.c0, (hb.cell (p := ⟨w.heap.size, 1, none⟩) l0).trans h.c1, (hb.cell (p := ⟨w.heap.size + 1, 0, none⟩) l).trans h.c2, h.be.trans (hb.mono h.be.size), by omega⟩
theorem own_emptyI {V : World} {base : Nat} {e : TypeId} : V.ownsRow base e 1 (.slice none 0 0) 0 [] := ⟨rfl, .inl ⟨rfl, rfl⟩⟩
set_option maxRecDepth 100000 in
set_option maxHeartbeats 1000000 in
theorem wiC1_is (m b : Int) (r p : Bool) (f0 ba q1 q2 : Nat) (w : World) (hb : w.cell? ⟨f0, 1, none⟩ = some (.int .i64 b)) (hc : w.cell? ⟨ba, 0, none⟩ = some (.func (.func 86) #[] #[.pointer (some ⟨q1, 0, none⟩), .pointer (some ⟨q2, 0, none⟩)])) (hr : Hid ((decide (m ≤ b) && p) = r))
    (HC : Hid (m ≤ b → ∀ w' : World, Below w.heap.size w w' → Calls Tryz.prog 86 #[.int .i64 m, .pointer (some ⟨q1, 0, none⟩), .pointer (some ⟨q2, 0, none⟩)] w' fun e w'' => e = .returned (.bool p) ∧ Below w'.heap.size w' w'')) :
    Calls Tryz.prog 110 #[.int .i64 m, .pointer (some ⟨f0, 0, none⟩), .pointer (some ⟨ba, 0, none⟩)] w fun e w' => e = .returned (.bool r) ∧ Below w.heap.size w w' := by
  by_cases h : m ≤ b
  · have g1 : decide (m ≤ b) = true := by simpa using h
    have hr2 : Hid (p = r) := Lib.hid (by rw [← hr.out, g1]; rfl)
    have hcall := HC.out h
    have HCL := Lib.hid hcall
    clear hr HC hcall
    go_enter Tryz.func110, Tryz.ntmps110
    go_wp2_with fail
    refine (HCL.out _ (by (repeat (first | (with_reducible refine Below.drew ?_) | (with_reducible refine below_drewN ?_ _) | (with_reducible refine Below.alloc ?_ (by first | omega | (simp; done) | (simp; omega) | (simp at *; omega)) _) | (with_reducible refine Below.setCell ?_ (by first | omega | (simp; done) | (simp; omega) | (simp at *; omega)) _) | (with_reducible exact Below.refl _ _) | (with_reducible assumption) | (with_reducible refine Below.trans ?_ (Below.mono (by assumption) (by first | omega | (simp; done) | (simp; omega) | (simp at *; omega)))))))).mono ?_
    rintro e w1 ⟨rfl, hb1⟩
    have hB1 : Below w.heap.size w w1 := (by (repeat (first | (with_reducible refine Below.drew ?_) | (with_reducible refine below_drewN ?_ _) | (with_reducible refine Below.alloc ?_ (by first | omega | (simp; done) | (simp; omega) | (simp at *; omega)) _) | (with_reducible refine Below.setCell ?_ (by first | omega | (simp; done) | (simp; omega) | (simp at *; omega)) _) | (with_reducible exact Below.refl _ _) | (with_reducible assumption) | (with_reducible refine Below.trans ?_ (Below.mono (by assumption) (by first | omega | (simp; done) | (simp; omega) | (simp at *; omega)))))))
    clear hb1
    go_wp2
    go_ret
    exact ⟨by rw [hr2.out]; rfl, hB1⟩
  · have g1 : decide (m ≤ b) = false := by simpa using h
    have hr2 : Hid (false = r) := Lib.hid (by rw [← hr.out, g1]; rfl)
    clear hr HC
    go_enter Tryz.func110, Tryz.ntmps110
    go_wp2
    go_ret
    exact ⟨by rw [hr2.out]; rfl, (by (repeat (first | (with_reducible refine Below.drew ?_) | (with_reducible refine below_drewN ?_ _) | (with_reducible refine Below.alloc ?_ (by first | omega | (simp; done) | (simp; omega) | (simp at *; omega)) _) | (with_reducible refine Below.setCell ?_ (by first | omega | (simp; done) | (simp; omega) | (simp at *; omega)) _) | (with_reducible exact Below.refl _ _) | (with_reducible assumption) | (with_reducible refine Below.trans ?_ (Below.mono (by assumption) (by first | omega | (simp; done) | (simp; omega) | (simp at *; omega)))))))⟩
set_option maxRecDepth 100000 in
set_option maxHeartbeats 4000000 in
theorem windowsInC_is (g : Int → Bool) (a b : Int) (n : Nat) (q1 q2 : Nat) (w : World) (hn : Hid ((n : Int) = b - a + 1)) (a0 : 0 ≤ a) (ab : a ≤ b) (b1 : b ≤ 1000000) (hs : b - a < 3000)
    (HC : Hid (∀ (m : Int) (w' : World), a ≤ m → m ≤ b → Below w.heap.size w w' → Calls Tryz.prog 86 #[.int .i64 m, .pointer (some ⟨q1, 0, none⟩), .pointer (some ⟨q2, 0, none⟩)] w' fun e w'' => e = .returned (.bool (g m)) ∧ Below w'.heap.size w' w'')) :
    Calls Tryz.prog 69 #[.agg #[.int .i64 a, .int .i64 b], .func (.func 86) #[] #[.pointer (some ⟨q1, 0, none⟩), .pointer (some ⟨q2, 0, none⟩)]] w (WofQ (rwL a (fun k => g (a + (k : Int))) n) w) := by
  obtain ⟨i0, hi, hz0, hz1, hz2⟩ := info_partsS infoIn
  have HI := Lib.hid hi
  have HZ0 := Lib.hid hz0
  have HZ1 := Lib.hid hz1
  have HZ2 := Lib.hid hz2
  clear hi hz0 hz1 hz2
  have eb : IntKind.i64.wrap (b + 1) = b + 1 := IntWalk.i64_in _ (by omega)
  go_enter Tryz.func69, Tryz.ntmps69
  go_upto_region 1 with (fail)
  refine wp_world (WiS a b (.func (.func 86) #[] #[.pointer (some ⟨q1, 0, none⟩), .pointer (some ⟨q2, 0, none⟩)]) w) ⟨by simp [go_sem, World.cell?_alloc_past], by simp [go_sem, World.cell?_alloc_past], by simp [go_sem, World.cell?_alloc_past], (by (repeat (first | (with_reducible refine Below.drew ?_) | (with_reducible refine below_drewN ?_ _) | (with_reducible refine Below.alloc ?_ (by first | omega | (simp; done) | (simp; omega) | (simp at *; omega)) _) | (with_reducible refine Below.setCell ?_ (by first | omega | (simp; done) | (simp; omega) | (simp at *; omega)) _) | (with_reducible exact Below.refl _ _) | (with_reducible assumption) | (with_reducible refine Below.trans ?_ (Below.mono (by assumption) (by first | omega | (simp; done) | (simp; omega) | (simp at *; omega))))))), by simp⟩ (fun u hu => ?_)
  have HU := Lib.hid hu
  have hu0 := hu.c0
  clear hu
  go_wp2
  go_loopw [6, 7] (fun l i wr => ∃ (k : Nat) (G : Option Addr) (cg : Nat), l = .slice G k cg ∧ i = .int .i64 (a + (k : Int)) ∧ (k : Int) ≤ b - a + 2 ∧ Hid (wr.ownsRow u.heap.size 3 1 (.slice G k cg) k (rowsV intV (mins a k))) ∧ Below u.heap.size u wr) (fun _ i _ => (b + 2 - intOf i).toNat)
  case atStart => exact ⟨0, none, 0, rfl, by simp, by omega, Lib.hid own_emptyI, (by (repeat (first | (with_reducible refine Below.drew ?_) | (with_reducible refine below_drewN ?_ _) | (with_reducible refine Below.alloc ?_ (by first | omega | (simp; done) | (simp; omega) | (simp at *; omega)) _) | (with_reducible refine Below.setCell ?_ (by first | omega | (simp; done) | (simp; omega) | (simp at *; omega)) _) | (with_reducible exact Below.refl _ _) | (with_reducible assumption) | (with_reducible refine Below.trans ?_ (Below.mono (by assumption) (by first | omega | (simp; done) | (simp; omega) | (simp at *; omega)))))))⟩
  case round =>
    obtain ⟨k, G, cg, rfl, rfl, hk, HO, hB⟩ := hrel
    have hsz := hB.size
    have c1 := (HU.out.below hB).c1
    have c2 := (HU.out.below hB).c2
    have hlt := HU.out.lt
    have n1 : w.heap.size < wr.heap.size := by omega
    have n2 : w.heap.size + 1 < wr.heap.size := by omega
    by_cases hkb : a + (k : Int) ≤ b + 1
    · have ek : IntKind.i64.wrap (a + (k : Int) + 1) = a + (k : Int) + 1 := IntWalk.i64_in _ (by omega)
      have HRW : Hid (rowsV intV (mins a (k + 1)) = rowsV intV (mins a k) ++ [.int .i64 (a + (k : Int))]) := Lib.hid (by rw [mins_succ, rowsV_app]; rfl)
      have HML : Hid ((mins a (k + 1)).length = k + 1) := Lib.hid (mins_len a (k + 1))
      go_wp2_with (at_builtin; refine wpList_append_own_at _ rfl _ _ 81 rfl u.heap.size 3 i0 (.int .i64 0) 1 8 Tryz.underlying81 HI.out HZ0.out HZ1.out HZ2.out rfl (by decide) _ _ _ rfl (own_below HO.out (by exact (by (repeat (first | (with_reducible refine Below.drew ?_) | (with_reducible refine below_drewN ?_ _) | (with_reducible refine Below.alloc ?_ (by first | omega | (simp; done) | (simp; omega) | (simp at *; omega)) _) | (with_reducible refine Below.setCell ?_ (by first | omega | (simp; done) | (simp; omega) | (simp at *; omega)) _) | (with_reducible exact Below.refl _ _) | (with_reducible assumption) | (with_reducible refine Below.trans ?_ (Below.mono (by assumption) (by first | omega | (simp; done) | (simp; omega) | (simp at *; omega)))))))) (Nat.le_refl _)) ⟨wr.heap.size, 0, none⟩ 1 1 [.int .i64 (a + (k : Int))] rfl rfl ?a0 ?a1 ?a2 ?a3 ?a4 ?_)
      case a0 =>
        intro j v hj
        match j, hj with
        | 0, hj => simp at hj; subst hj; simp [Addr.add, go_sem]
      case a1 => intro v hv; simp at hv; subst hv; rfl
      case a2 => unfold maxLen; omega
      case a3 => omega
      case a4 => simp; omega
      intro v' x5 hown hgrow hnn hblk
      have hB5 : Below u.heap.size u x5 := Below.grown (by exact (by (repeat (first | (with_reducible refine Below.drew ?_) | (with_reducible refine below_drewN ?_ _) | (with_reducible refine Below.alloc ?_ (by first | omega | (simp; done) | (simp; omega) | (simp at *; omega)) _) | (with_reducible refine Below.setCell ?_ (by first | omega | (simp; done) | (simp; omega) | (simp at *; omega)) _) | (with_reducible exact Below.refl _ _) | (with_reducible assumption) | (with_reducible refine Below.trans ?_ (Below.mono (by assumption) (by first | omega | (simp; done) | (simp; omega) | (simp at *; omega)))))))) hgrow (by simp; omega) (fun r hr => (own_block HO.out r hr).1)
      have hown2 : x5.ownsRow u.heap.size 3 1 v' (mins a (k + 1)).length (rowsV intV (mins a (k + 1))) := by rw [HRW.out, HML.out]; exact hown
      obtain ⟨G5, cg5, hv5, _, _, _, _, _⟩ := SlRows_own (f := intV) (n := 1) (fun _ => rfl) hown2
      rw [HML.out] at hv5
      subst hv5
      have HO5 : Hid (x5.ownsRow u.heap.size 3 1 (.slice G5 (k + 1) cg5) (k + 1) (rowsV intV (mins a (k + 1)))) := Lib.hid (by rw [HML.out] at hown2; exact hown2)
      clear hown hown2 hgrow hnn hblk
      go_wp2
      go_roundw
      case rel => exact ⟨k + 1, G5, cg5, rfl, by first | rfl | (simp; omega) | (congr 1; omega), by omega, HO5, hB5⟩
      case measure => (simp [intOf]) <;> omega
    · have hkn : k = n + 1 := by have := hn.out; omega
      have hO := HO.out
      rw [hkn] at hO
      have hown2 : wr.ownsRow u.heap.size 3 1 (.slice G (n + 1) cg) (mins a (n + 1)).length (rowsV intV (mins a (n + 1))) := by rw [mins_len]; exact hO
      obtain ⟨G5, cg5, hv5, hS5, _, hn5, _, _⟩ := SlRows_own (f := intV) (n := 1) (fun _ => rfl) hown2
      injection hv5 with e1 e2 e3
      subst e1 e3
      have HS5 := Lib.hid hS5
      have hBw : Below w.heap.size w wr := HU.out.be.trans (hB.mono HU.out.be.size)
      have HBW := Lib.hid hBw
      have hn4 : n + 1 ≤ 4000 := by have := hn.out; omega
      have c0 : wr.cell? ⟨w.heap.size, 1, none⟩ = some (.int .i64 b) := c1
      clear hO hown2 hS5 hn5 e2
      subst hkn
      go_wp2_with fail
      refine (windowsOfI_is (spnF b g) (mins a (n + 1)) G cg (n + 1) w.heap.size (w.heap.size + 1) _ (Lib.hid ?wa) hn4 ?wm (Lib.hid ?wb) (Lib.hid ?wd)).mono ?_
      case wa => rw [mins_len]
      case wm =>
        intro x hx
        have := mins_mem.1 hx
        have := hn.out
        omega
      case wb => intro w' h; exact HS5.out.below h
      case wd =>
        intro m w' hm h
        have hm2 := mins_mem.1 hm
        have z := h.size
        exact wiC1_is m b _ (g m) w.heap.size (w.heap.size + 1) q1 q2 w' ((h.cell (p := ⟨_, 1, none⟩) n1).trans c1) ((h.cell (p := ⟨_, 0, none⟩) n2).trans c2) (Lib.hid rfl) (Lib.hid fun hmb w2 h2 => HC.out m w2 (by omega) hmb (HBW.out.trans ((h.mono HBW.out.size).trans (h2.mono (Nat.le_trans HBW.out.size z)))))
      rintro e x7 hQ
      have he : (wof (spnF b g) (mins a (n + 1))).1 = rwL a (fun k => g (a + (k : Int))) n := wof_span a b g n hn.out
      rw [he] at hQ
      rcases hQ with ⟨hq, G7, cg7, rfl, hS7, hN7, hb7⟩ | ⟨hq, rfl, hb7⟩
      · have HS7 := Lib.hid hS7
        have HN7 := Lib.hid hN7
        have HQ7 := Lib.hid hq
        have hB7 : Below w.heap.size w x7 := HBW.out.trans (hb7.mono HBW.out.size)
        clear hS7 hN7 hb7 hq he
        go_wp2
        go_ret2
        exact .inl ⟨HQ7.out, G7, cg7, rfl, HS7.out, HN7.out, hB7⟩
      · have HQ7 := Lib.hid hq
        have hB7 : Below w.heap.size w x7 := HBW.out.trans (hb7.mono HBW.out.size)
        clear hb7 hq he
        go_wp2
        go_ret2
        exact .inr ⟨HQ7.out, rfl, hB7⟩
end Go.Proofs.YtojaompfffpofaaGreat
