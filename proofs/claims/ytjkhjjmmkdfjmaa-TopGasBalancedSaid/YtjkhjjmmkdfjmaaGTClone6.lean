import Derived.Test.YtjkhjjmmkdfjmaaGTLawFl
import Derived.Test.YtjkhjjmmkdfjmaaGTCont
import Derived.Test.YtjkhjjmmkdfjmaaGTBal
import Derived.Outline
import Derived.Test.YtjkhjjmmkdfjmaaGTCopyV
import Derived.Test.YtjkhjjmmkdfjmaaGTBeh2
import Derived.Maps.AppendAt
import Derived.Laws.AppendOwnNone
import Derived.OwnWalk
namespace Go.Proofs.Ytjkhjjmmkdfjmaa
open Go.ChangeShapes Go.WideShapes Go.ChangeAt Go.RowKit
set_option linter.unusedVariables false
set_option linter.unusedSimpArgs false
attribute [local go_sem ↓] Go.wp_at_zero Go.wp_at_succ
theorem sm_take (f : Hd → Int) : ∀ {H : List Hd} {q : Nat} (hq : q < H.length), sm f (H.take (q + 1)) = sm f (H.take q) + f H[q]
  | g :: r, 0, _ => by simp [sm]
  | g :: r, q + 1, h => by
    have ih := sm_take f (H := r) (q := q) (by simpa using h)
    simp only [List.take_succ_cons, sm, List.getElem_cons_succ] at ih ⊢
    omega
theorem beh_all {L : List Ve} {X : List Fl} {N : Nat} (h : behP L X = (N, 0)) : RmOk (runR (rm0 L) X) X.length ∧ Bal (runR (rm0 L) X) ∧ Prs (runR (rm0 L) X).H ∧ (runR (rm0 L) X).H.map hdS = L := by
  unfold behP at h
  by_cases h1 : ctV L = 0
  · rw [if_pos h1] at h
    by_cases h2 : 200 < X.length
    · rw [if_pos h2] at h; exact absurd (Prod.mk.inj h).2 (by decide)
    · rw [if_neg h2] at h
      have h0 := rm0_ok h1
      obtain ⟨a, b, c, d⟩ := run_all X (rm0 L) 0 0 h0 (bal0 L) (prs0 h0) h
      exact ⟨by rw [Nat.zero_add] at a; exact a, b, c, d.trans (rm0_map L)⟩
  · rw [if_neg h1] at h; exact absurd (Prod.mk.inj h).2 h1
theorem ctr_at {w : World} {b off : Nat} {H : List Hd} (h : RowsAt ctC 3 w b off H) {k : Nat} (hk : k < H.length) : w.cell? ⟨b, off + k * 3, none⟩ = some (.int .i64 H[k].a) ∧ w.cell? ⟨b, off + k * 3 + 1, none⟩ = some (.int .i64 H[k].b) ∧ w.cell? ⟨b, off + k * 3 + 2, none⟩ = some (.int .i64 H[k].c) := ⟨h k hk 0 (by omega), h k hk 1 (by omega), h k hk 2 (by omega)⟩
/-- Where the loop stands: what came in, the sum so far, the contents, the vessels. -/
structure BaS (sb zb ab ao vb vo : Nat) (r : Rm) (s0 s1 s2 : Int) (w X : World) : Prop where
  g0 : X.cell? ⟨sb, 0, none⟩ = some (.int .i64 r.g0)
  g1 : X.cell? ⟨sb, 1, none⟩ = some (.int .i64 r.g1)
  g2 : X.cell? ⟨sb, 2, none⟩ = some (.int .i64 r.g2)
  z0 : X.cell? ⟨zb, 0, none⟩ = some (.int .i64 s0)
  z1 : X.cell? ⟨zb, 1, none⟩ = some (.int .i64 s1)
  z2 : X.cell? ⟨zb, 2, none⟩ = some (.int .i64 s2)
  zf : ∀ j, X.frozen? ⟨zb, j, none⟩ = false
  ls : sb < X.heap.size
  lz : zb < X.heap.size
  ne : sb ≠ zb
  be : Below w.heap.size w X
  gs : w.heap.size ≤ zb
  ra : r.H = [] ∨ (ab < X.heap.size ∧ ab ≠ zb ∧ RowsAt ctC 3 X ab ao r.H)
  rv : r.H = [] ∨ (vb < X.heap.size ∧ vb ≠ zb ∧ RowsAt veV 3 X vb vo (r.H.map hdS))
theorem BaS.below {sb zb ab ao vb vo : Nat} {r : Rm} {s0 s1 s2 : Int} {w X X' : World} (h : BaS sb zb ab ao vb vo r s0 s1 s2 w X) (hb : Below X.heap.size X X') : BaS sb zb ab ao vb vo r s0 s1 s2 w X' := by
  have z := hb.size
  obtain ⟨g0, g1, g2, z0, z1, z2, zf, ls, lz, ne, be, gs, ra, rv⟩ := h
  exact ⟨(hb.cell (p := ⟨sb, 0, none⟩) ls).trans g0, (hb.cell (p := ⟨sb, 1, none⟩) ls).trans g1, (hb.cell (p := ⟨sb, 2, none⟩) ls).trans g2, (hb.cell (p := ⟨zb, 0, none⟩) lz).trans z0, (hb.cell (p := ⟨zb, 1, none⟩) lz).trans z1, (hb.cell (p := ⟨zb, 2, none⟩) lz).trans z2, fun j => (hb.frozen (p := ⟨zb, j, none⟩) lz).trans (zf j), by omega, by omega, ne, be.trans (hb.mono be.size), gs, ra.imp id fun h => ⟨by have := h.1; omega, h.2.1, h.2.2.below hb h.1⟩, rv.imp id fun h => ⟨by have := h.1; omega, h.2.1, h.2.2.below hb h.1⟩⟩
theorem BaS.drew {sb zb ab ao vb vo : Nat} {r : Rm} {s0 s1 s2 : Int} {w X : World} (h : BaS sb zb ab ao vb vo r s0 s1 s2 w X) : BaS sb zb ab ao vb vo r s0 s1 s2 w X.drew := h.below (Below.refl _ _).drew
theorem BaS.add {sb zb ab ao vb vo : Nat} {r : Rm} {s0 s1 s2 : Int} {w X : World} (h : BaS sb zb ab ao vb vo r s0 s1 s2 w X) (t0 t1 t2 : Int) : BaS sb zb ab ao vb vo r t0 t1 t2 w (((X.setCell ⟨zb, 0, none⟩ (.int .i64 t0)).setCell ⟨zb, 1, none⟩ (.int .i64 t1)).setCell ⟨zb, 2, none⟩ (.int .i64 t2)) := by
  obtain ⟨g0, g1, g2, z0, z1, z2, zf, ls, lz, ne, be, gs, ra, rv⟩ := h
  have off : ∀ b, b ≠ zb → (((X.setCell ⟨zb, 0, none⟩ (.int .i64 t0)).setCell ⟨zb, 1, none⟩ (.int .i64 t1)).setCell ⟨zb, 2, none⟩ (.int .i64 t2)).heap[b]? = X.heap[b]? := fun b hb => (Below.heap_setCell _ _ _ _ hb).trans ((Below.heap_setCell _ _ _ _ hb).trans (Below.heap_setCell _ _ _ _ hb))
  have oc : ∀ b i, b ≠ zb → (((X.setCell ⟨zb, 0, none⟩ (.int .i64 t0)).setCell ⟨zb, 1, none⟩ (.int .i64 t1)).setCell ⟨zb, 2, none⟩ (.int .i64 t2)).cell? ⟨b, i, none⟩ = X.cell? ⟨b, i, none⟩ := fun b i hb => World.cell?_of_block (a := ⟨b, i, none⟩) (off b hb)
  exact ⟨(oc _ _ ne).trans g0, (oc _ _ ne).trans g1, (oc _ _ ne).trans g2, by simp [go_sem, *], by simp [go_sem, *], by simp [go_sem, *], fun j => by rw [World.frozen?_setCell, World.frozen?_setCell, World.frozen?_setCell]; exact zf j, by simpa using ls, by simpa using lz, ne,
    ((be.setCell (p := ⟨zb, 0, none⟩) gs _).setCell (p := ⟨zb, 1, none⟩) gs _).setCell (p := ⟨zb, 2, none⟩) gs _, gs, ra.imp id fun h => ⟨by simpa using h.1, h.2.1, fun k hk i hi => (oc _ _ h.2.1).trans (h.2.2 k hk i hi)⟩, rv.imp id fun h => ⟨by simpa using h.1, h.2.1, fun k hk i hi => (oc _ _ h.2.1).trans (h.2.2 k hk i hi)⟩⟩
end Go.Proofs.Ytjkhjjmmkdfjmaa

namespace Go.Proofs.Ytjkhjjmmkdfjmaa
open Go.ChangeShapes Go.WideShapes Go.ChangeAt Go.RowKit
set_option linter.unusedVariables false
set_option linter.unusedSimpArgs false
theorem oper_append_own_at {P : Program} {w : World} {o : Oper} {a : Act} {K : Act → World → Prop} {Q : Exit → Act → World → Prop} (s x : Operand) (t : TypeId)
    (ho : o.op = .call { callee := .builtin .append, args := #[s, x], argTypes := #[t, t] })
    (base : Nat) (e : TypeId) (i : TypeInfo) (z : Value) (size bytes : Nat) (ht : P.underlying t = some (.slice e)) (hi : P.info? e = some i) (hz : i.zero = some z)
    (hsize : i.size = size) (hby : i.bytes = bytes) (hzs : z.cells.size = size) (hsz : 0 < size)
    (v : Value) (n : Nat) (xs : List Value) (hs : a.eval s = v) (hown : w.ownsRow base e size v n xs)
    (ad : Addr) (m c : Nat) (news : List Value) (hx : a.eval x = .slice (some ad) m c) (hl : news.length = m * size) (hnews : ∀ j u, news[j]? = some u → w.cell? (ad.add j) = some u) (h1 : ∀ u ∈ news, u.oneCell' = true)
    (h63 : n + m ≤ maxLen) (hbytes : (n + m) * bytes ≤ 140737488355328) (hbase : base ≤ w.heap.size)
    (h : ∀ v' w', w'.ownsRow base e size v' (n + m) (xs ++ news) → w.grownBy w' v.ownBlock → K (a.put o.dst v') w') : o.wp P a w K Q := by
  obtain ⟨v', w', hr, h2, h3, _, _⟩ := run_append_own_at (P := P) w base t o.type e i z size bytes ht hi hz hsize hby hzs hsz v n xs hown ad m c news hl hnews h1 h63 hbytes hbase
  unfold Oper.wp execOp
  simp only [ho, resolve, invoke, builtin, Sem.run_bind, Sem.run_pure, Result.andThen_ok, List.map_toArray, List.map_cons, List.map_nil, hs, hx, hr]
  exact h v' w' h2 h3
theorem dia_snoc {x : Fl} : ∀ (X : List Fl) (r : Rm) (i : Nat), (dia r X i).2 = 0 → dia r (X ++ [x]) i = if stpE (runR r X) x = 0 then (0, 0) else (i + X.length, stpE (runR r X) x)
  | [], r, i, _ => by by_cases h : stpE r x = 0 <;> simp [dia, runR, h]
  | y :: l, r, i, h => by
    by_cases hz : stpE r y = 0
    · have h' : (dia (stpR r y) l (i + 1)).2 = 0 := by simpa [dia, hz] using h
      have h2 := dia_snoc (x := x) l (stpR r y) (i + 1) h'
      show (if stpE r y = 0 then dia (stpR r y) (l ++ [x]) (i + 1) else _) = _
      rw [if_pos hz, h2, show i + 1 + l.length = i + (y :: l).length by simp; omega]
      rfl
    · exact absurd (by simp [dia, hz] at h) hz
/-- The error of a diary with one fill more. -/
def addE (L : List Ve) (X : List Fl) (x : Fl) : Int := if (behP L X).2 = 0 then (if 200 ≤ X.length then 8 else stpE (runR (rm0 L) X) x) else (behP L X).2
theorem beh_snoc {L : List Ve} {X : List Fl} {x : Fl} (h : (behP L X).2 = 0) : (behP L (X ++ [x])).2 = addE L X x := by
  unfold addE
  rw [if_pos h]
  unfold behP at h ⊢
  by_cases h1 : ctV L = 0
  · rw [if_pos h1] at h ⊢
    by_cases h2 : 200 < X.length
    · rw [if_pos h2] at h; exact absurd h (by decide)
    · rw [if_neg h2] at h
      by_cases h3 : 200 ≤ X.length
      · rw [if_pos (by simp; omega), if_pos h3]
      · rw [if_neg (by simp; omega), if_neg h3, dia_snoc X _ 0 h]
        by_cases h4 : stpE (runR (rm0 L) X) x = 0
        · rw [if_pos h4, h4]
        · rw [if_neg h4]
  · rw [if_neg h1] at h; exact absurd h h1
theorem beh_len {L : List Ve} {X : List Fl} (h : (behP L X).2 = 0) : L.length ≤ 20 ∧ X.length ≤ 200 := by
  unfold behP at h
  by_cases h1 : ctV L = 0
  · rw [if_pos h1] at h
    refine ⟨?_, ?_⟩
    · unfold ctV at h1
      by_cases h3 : 20 < L.length
      · rw [if_pos h3] at h1; exact absurd h1 (by decide)
      · omega
    · by_cases h2 : 200 < X.length
      · rw [if_pos h2] at h; exact absurd h (by decide)
      · omega
  · rw [if_neg h1] at h; exact absurd h h1
theorem eqF0 (w : World) : (binOp .eql 23 (.slice none 0 0) (.slice none 0 0)).run Try.prog w = .ok (.bool true) w := by kernel_rfl
theorem eqF1 (a : Addr) (n c : Nat) (w : World) : (binOp .eql 23 (.slice (some a) n c) (.slice none 0 0)).run Try.prog w = .ok (.bool false) w := by kernel_rfl
/-- A copy that its caller may let grow. -/
def ClonedFl (L : List Fl) (w : World) (e : Ending) (w' : World) : Prop := ∃ v, e = .returned v ∧ w'.ownsRow w.heap.size 38 8 v L.length (rowsV flV L) ∧ Below w.heap.size w w'
set_option maxRecDepth 100000 in
theorem cloneFl_some (L : List Fl) (ad : Addr) (cap : Nat) (w : World) (hl : L.length ≤ 1000000) (hP : ∀ j u, (rowsV flV L)[j]? = some u → (w.alloc (.cells #[] 38)).cell? (ad.add j) = some u) :
    Calls Try.prog 66 #[.slice (some ad) L.length cap] w (ClonedFl L w) := by
  have HC := Lib.hid hP
  have HO := Lib.hid (World.ownsRow_made (base := w.heap.size) (e := 38) (size := 8) w #[] 0 (Nat.le_refl _) (by simp) (by simp))
  obtain ⟨i0, hi, hz0, hz1, hz2⟩ := info_partsF infoFl
  have HI := Lib.hid hi
  have HZ0 := Lib.hid hz0
  have HZ1 := Lib.hid hz1
  have HZ2 := Lib.hid hz2
  have HL := Lib.hid (rowsV_len (f := flV) (n := 8) (fun _ => rfl) L)
  have HF := Lib.hid (rows_one flV_one L)
  clear hP hi hz0 hz1 hz2
  have hen := eqF1 ad L.length cap
  go_enter Try.func66, Try.ntmps66
  go_wp2_with (at_builtin; refine wpList_append_own_at _ rfl _ _ 23 rfl w.heap.size 38 i0 (.agg #[.int .i64 0, .int .i64 0, .string ⟨#[]⟩, .string ⟨#[]⟩, .int .i64 0, .int .i64 0, .int .i64 0, .bool false]) 8 80 Try.underlying23 HI.out HZ0.out HZ1.out HZ2.out rfl (by decide) _ 0 [] rfl HO.out ad L.length cap (rowsV flV L) rfl HL.out HC.out HF.out ?c1 ?c2 ?c3 ?_)
  case c1 => unfold maxLen; omega
  case c2 => omega
  case c3 => simp
  intro v' w1 hown hgrow _ hblk
  have hB : Below w.heap.size w w1 := ((Below.refl w.heap.size w).alloc (Nat.le_refl _) _).grown hgrow (by simp) (by intro k hk; simp [Value.ownBlock] at hk; omega)
  (try simp only [Nat.zero_add, List.nil_append] at hown)
  have HS := Lib.hid hown
  clear hown hgrow hblk
  go_wp2
  go_ret
  exact ⟨v', rfl, HS.out, hB⟩
theorem cloneFl_nil (w : World) : Calls Try.prog 66 #[.slice none 0 0] w (ClonedFl [] w) := by
  have hen := eqF0
  go_enter Try.func66, Try.ntmps66
  go_wp2
  go_ret
  exact ⟨_, rfl, World.ownsRow_nil _ _ _ _, belA⟩
theorem cloneFl_n (L : List Fl) (A : Option Addr) (cap n : Nat) (w : World) (hn : Hid (n = L.length)) (hl : n ≤ 1000000) (hc : A = none → cap = 0) (hS : SlRows flV 8 w A L) :
    Calls Try.prog 66 #[.slice A n cap] w (ClonedFl L w) := by
  obtain rfl := hn.out
  rcases hS with rfl | ⟨c, off, rfl, hlt, hP⟩
  · cases A with
    | none => rw [hc rfl]; exact cloneFl_nil w
    | some ad => exact cloneFl_some [] ad cap w (by simp) (by intro j u h; simp [rowsV] at h)
  · exact cloneFl_some L _ cap w hl (rowsV_cells (f := flV) (n := 8) (fun _ => rfl) (by decide) (hP.below (Below.alloc (Below.refl _ w) (Nat.le_refl _) (.cells #[] 38)) hlt))
end Go.Proofs.Ytjkhjjmmkdfjmaa
