import Derived.Test.YtgidmmmdpmophaaRSFEBr
import Derived.Outline
namespace Go.Proofs.Ytgidmmmdpmophaa
open Go.ChangeShapes Go.WideShapes Go.ChangeAt Go.RowKit
set_option linter.unusedVariables false
set_option linter.unusedSimpArgs false
attribute [local go_sem ↓] Go.wp_at_zero Go.wp_at_succ
theorem sl_setE {α : Type} {f : α → List Value} {n : Nat} {w : World} {A : Option Addr} {L : List α} {N b i : Nat} {v : Value} (h : SlRows f n w A L) (hA : ∀ ad, A = some ad → N ≤ ad.block) (hb : b < N) : SlRows f n (w.setCell ⟨b, i, none⟩ v) A L := by
  rcases h with h | ⟨c, off, rfl, hlt, h⟩
  · exact Or.inl h
  · have hc : N ≤ c := hA _ rfl
    have hne : c ≠ b := by omega
    exact Or.inr ⟨c, off, rfl, by simpa using hlt, fun k hk j hj => by rw [show (w.setCell ⟨b, i, none⟩ v).cell? ⟨c, off + k * n + j, none⟩ = w.cell? ⟨c, off + k * n + j, none⟩ by simp [go_sem, hne]]; exact h k hk j hj⟩
def CopyR (T : List Ox) (r : Ru) (n : Nat) (w : World) (e : Ending) (w' : World) : Prop := ∃ (G : Option Addr) (cg : Nat), e = .returned (.agg #[.slice G n cg, .int .i64 r.a, .int .i64 r.b, .int .i64 r.nc, .int .i64 r.dn, .int .i64 r.br, .int .i64 r.em, .int .i64 r.pa, .int .i64 r.sc]) ∧ SlRows oxV 2 w' G T ∧ Below w.heap.size w w'
theorem infoOx : (Try.prog.info? 103).map (fun i => (i.zero, i.size, i.bytes)) = some (some (.agg #[.int .i64 0, .int .i64 0]), 2, 16) := by kernel_rfl
set_option maxRecDepth 100000 in
set_option maxHeartbeats 2000000 in
theorem copyR_is (T : List Ox) (r : Ru) (A : Option Addr) (n cap : Nat) (w : World) (hn : Hid (n = T.length)) (hl : n ≤ 1000000) (hT : Hid (SlRows oxV 2 w A T)) (hC : Hid (A = none → n = 0 ∧ cap = 0)) :
    Calls Try.prog 12 #[.agg #[.slice A n cap, .int .i64 r.a, .int .i64 r.b, .int .i64 r.nc, .int .i64 r.dn, .int .i64 r.br, .int .i64 r.em, .int .i64 r.pa, .int .i64 r.sc]] w (CopyR T r n w) := by
  obtain ⟨i0, hi, hz0, hz1, hz2⟩ := info_partsG infoOx
  have HI := Lib.hid hi
  have HZ0 := Lib.hid hz0
  have HZ1 := Lib.hid hz1
  have HZ2 := Lib.hid hz2
  have HL := Lib.hid (rowsV_len (f := oxV) (n := 2) (fun _ => rfl) T)
  rw [← hn.out] at HL
  clear hi hz0 hz1 hz2
  go_enter Try.func12, Try.ntmps12
  go_upto_region 1 with (fail)
  have A1 := BlkF.made (B := w.heap.size) w [.slice A n cap, .int .i64 r.a, .int .i64 r.b, .int .i64 r.nc, .int .i64 r.dn, .int .i64 r.br, .int .i64 r.em, .int .i64 r.pa, .int .i64 r.sc] 30 (Nat.le_refl _)
  have A2 := BlkF.made (B := w.heap.size) (w.alloc (.cells #[.slice A n cap, .int .i64 r.a, .int .i64 r.b, .int .i64 r.nc, .int .i64 r.dn, .int .i64 r.br, .int .i64 r.em, .int .i64 r.pa, .int .i64 r.sc] 30)) [.slice none 0 0, .int .i64 0, .int .i64 0, .int .i64 0, .int .i64 0, .int .i64 0, .int .i64 0, .int .i64 0, .int .i64 0] 30 (by simp)
  have A1' := A1.below ((Below.refl _ _).alloc (Nat.le_refl _) (.cells #[.slice none 0 0, .int .i64 0, .int .i64 0, .int .i64 0, .int .i64 0, .int .i64 0, .int .i64 0, .int .i64 0, .int .i64 0] 30))
  simp only [World.size_alloc] at A2
  refine wp_worldE (fun u => u.heap.size = w.heap.size + 2 ∧ Below w.heap.size w u ∧ BlkF u w.heap.size w.heap.size [.slice A n cap, .int .i64 r.a, .int .i64 r.b, .int .i64 r.nc, .int .i64 r.dn, .int .i64 r.br, .int .i64 r.em, .int .i64 r.pa, .int .i64 r.sc] ∧ BlkF u w.heap.size (w.heap.size + 1) [.slice none 0 0, .int .i64 0, .int .i64 0, .int .i64 0, .int .i64 0, .int .i64 0, .int .i64 0, .int .i64 0, .int .i64 0]) ⟨by simp, ((Below.refl _ _).alloc (Nat.le_refl _) _).alloc (by simp) _, A1', A2⟩ (fun u hu => ?_)
  obtain ⟨hus, hB0, Z1, Z2⟩ := hu
  have HU := Lib.hid hus
  have hge : w.heap.size + 1 < u.heap.size := by omega
  clear hus
  clear A1 A2 A1'
  have HO := Lib.hid (World.ownsRow_made (base := u.heap.size) (e := 103) (size := 2) u #[] 0 (Nat.le_refl _) (by simp) (by simp))
  have HX := Lib.hid (srcG (f := oxV) (n := 2) (fun _ => rfl) (by decide) (hT.out.below (hB0.trans ((Below.refl u.heap.size u).alloc (Nat.le_refl _) (.cells #[] 103) |>.mono hB0.size))))
  obtain ⟨e0, e1, e2, e3, e4, e5, e6, e7, e8⟩ := b9 Z1
  have l1 := Z1.lt
  have hne : u.heap.size ≠ w.heap.size := by omega
  have hne2 : w.heap.size ≠ u.heap.size := by omega
  go_wp2_with (at_builtin; refine wpList_append_slG rfl _ _ 26 rfl u.heap.size 103 i0 (.agg #[.int .i64 0, .int .i64 0]) 2 16 Try.underlying26 HI.out HZ0.out HZ1.out HZ2.out rfl (by decide) _ 0 [] rfl HO.out A n cap (rowsV oxV T) rfl hC.out HL.out HX.out (rows_one oxV_one T) ?c1 ?c2 ?c3 ?_)
  case c1 => unfold maxLen; omega
  case c2 => omega
  case c3 => simp
  intro v' w1 hown hgrow hblk
  have hb1 : Below u.heap.size u w1 := ((Below.refl u.heap.size u).alloc (Nat.le_refl _) _).grown hgrow (by simp) (by intro k hk; simp [Value.ownBlock] at hk; omega)
  (try simp only [Nat.zero_add, List.nil_append] at hown)
  obtain ⟨G, cg, hv, hS, hGB, hN, _, _⟩ := SlRows_own (f := oxV) (n := 2) (L := T) (fun _ => rfl) (by rw [← hn.out]; exact hown)
  rw [← hn.out] at hv
  subst hv
  have HS := Lib.hid hS
  have HGB := Lib.hid hGB
  have Y1 := Z1.below hb1
  have Y2 := Z2.below hb1
  have hB1 := Lib.hid (hB0.trans (hb1.mono hB0.size))
  clear e0 e1 e2 e3 e4 e5 e6 e7 e8 hown hgrow hblk hS hGB hN Z1 Z2 HO HX hb1 hB0 l1 hne hne2
  obtain ⟨e0, e1, e2, e3, e4, e5, e6, e7, e8⟩ := b9 Y1
  obtain ⟨d0, d1, d2, d3, d4, d5, d6, d7, d8⟩ := b9 Y2
  have f1 := Y1.fz
  have f2 := Y2.fz
  go_wp2
  refine bodyPost_ret (v := .agg #[.slice G n cg, .int .i64 r.a, .int .i64 r.b, .int .i64 r.nc, .int .i64 r.dn, .int .i64 r.br, .int .i64 r.em, .int .i64 r.pa, .int .i64 r.sc]) (by simp [results, Try.results12, go_sem, *]) rfl ⟨G, cg, rfl, ?_, ?_⟩
  · have hu := HU.out
    iterate 10 refine sl_setE (N := u.heap.size) ?_ HGB.out (by omega)
    exact HS.out
  · have hB := hB1.out
    (repeat (first | (with_reducible refine Below.drew ?_) | (with_reducible refine below_drewN ?_ _) | (with_reducible refine Below.alloc ?_ (by first | omega | (simp; done) | (simp; omega) | (simp at *; omega)) _) | (with_reducible refine Below.setCell ?_ (by first | omega | (simp; done) | (simp; omega) | (simp at *; omega)) _) | (with_reducible exact Below.refl _ _) | (with_reducible assumption) | (with_reducible refine Below.trans ?_ (Below.mono (by assumption) (by first | omega | (simp; done) | (simp; omega) | (simp at *; omega))))))
end Go.Proofs.Ytgidmmmdpmophaa
