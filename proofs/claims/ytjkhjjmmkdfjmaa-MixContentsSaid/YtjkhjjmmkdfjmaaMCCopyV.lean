import Derived.Test.YtjkhjjmmkdfjmaaMCShort
import Derived.Outline
namespace Go.Proofs.Ytjkhjjmmkdfjmaa
open Go.ChangeShapes Go.WideShapes Go.ChangeAt Go.RowKit
set_option linter.unusedVariables false
set_option linter.unusedSimpArgs false
theorem infoVe : (Try.prog.info? 69).map (fun i => (i.zero, i.size, i.bytes)) = some (some (.agg #[.string ⟨#[]⟩, .int .i64 0, .int .i64 0]), 3, 32) := by kernel_rfl
/-- A copy came back. -/
def CopiedVe (n : Nat) (L : List Ve) (w : World) (e : Ending) (w' : World) : Prop := ∃ A cap, e = .returned (.slice A n cap) ∧ SlRows veV 3 w' A L ∧ Below w.heap.size w w'
theorem veV_one : ∀ g, ∀ u ∈ veV g, u.oneCell' = true := by
  intro g u hu
  simp [veV] at hu
  rcases hu with rfl | rfl | rfl <;> rfl
theorem copyVe_some (L : List Ve) (ad : Addr) (cap : Nat) (w : World) (hl : L.length ≤ 1000000) (hP : ∀ j u, (rowsV veV L)[j]? = some u → (w.alloc (.cells #[] 69)).cell? (ad.add j) = some u) :
    Calls Try.prog 15 #[.slice (some ad) L.length cap] w (CopiedVe L.length L w) := by
  have HC := Lib.hid hP
  have HO := Lib.hid (World.ownsRow_made (base := w.heap.size) (e := 69) (size := 3) w #[] 0 (Nat.le_refl _) (by simp) (by simp))
  obtain ⟨i0, hi, hz0, hz1, hz2⟩ := info_partsF infoVe
  have HI := Lib.hid hi
  have HZ0 := Lib.hid hz0
  have HZ1 := Lib.hid hz1
  have HZ2 := Lib.hid hz2
  have HL := Lib.hid (rowsV_len (f := veV) (n := 3) (fun _ => rfl) L)
  have HF := Lib.hid (rows_one veV_one L)
  clear hP hi hz0 hz1 hz2
  go_enter Try.func15, Try.ntmps15
  go_wp2_with (at_builtin; refine wpList_append_own_at _ rfl _ _ 22 rfl w.heap.size 69 i0 (.agg #[.string ⟨#[]⟩, .int .i64 0, .int .i64 0]) 3 32 Try.underlying22 HI.out HZ0.out HZ1.out HZ2.out rfl (by decide) _ 0 [] rfl HO.out ad L.length cap (rowsV veV L) rfl HL.out HC.out HF.out ?c1 ?c2 ?c3 ?_)
  case c1 => unfold maxLen; omega
  case c2 => omega
  case c3 => simp
  intro v' w1 hown hgrow _ hblk
  have hB : Below w.heap.size w w1 := ((Below.refl w.heap.size w).alloc (Nat.le_refl _) _).grown hgrow (by simp) (by intro k hk; simp [Value.ownBlock] at hk; omega)
  (try simp only [Nat.zero_add, List.nil_append] at hown)
  obtain ⟨A, cp, rfl, hS, _, _, _, _⟩ := SlRows_own (f := veV) (n := 3) (fun _ => rfl) hown
  have HS := Lib.hid hS
  clear hown hgrow hblk hS
  go_wp2
  go_ret
  exact ⟨A, cp, rfl, HS.out, hB⟩
theorem copyVe_nil (w : World) : Calls Try.prog 15 #[.slice none 0 0] w (CopiedVe 0 [] w) := by
  have HO := Lib.hid (World.ownsRow_made (base := w.heap.size) (e := 69) (size := 3) w #[] 0 (Nat.le_refl _) (by simp) (by simp))
  obtain ⟨i0, hi, hz0, hz1, hz2⟩ := info_partsF infoVe
  have HI := Lib.hid hi
  clear hi hz0 hz1 hz2
  go_enter Try.func15, Try.ntmps15
  go_wp2_with (at_builtin; refine wpList_append_own_none rfl _ _ 22 rfl w.heap.size 69 i0 3 Try.underlying22 HI.out _ 0 [] rfl HO.out rfl ?_)
  go_ret
  exact ⟨some ⟨w.heap.size, 0, none⟩, 0, rfl, Or.inl rfl, belA⟩
theorem copyVe_any (L : List Ve) (A : Option Addr) (cap : Nat) (w : World) (hl : L.length ≤ 1000000) (hc : A = none → cap = 0) (hS : SlRows veV 3 w A L) :
    Calls Try.prog 15 #[.slice A L.length cap] w (CopiedVe L.length L w) := by
  rcases hS with rfl | ⟨c, off, rfl, hlt, hP⟩
  · cases A with
    | none => rw [hc rfl]; exact copyVe_nil w
    | some ad => exact copyVe_some [] ad cap w (by simp) (by intro j u h; simp [rowsV] at h)
  · exact copyVe_some L _ cap w hl (rowsV_cells (f := veV) (n := 3) (fun _ => rfl) (by decide) (hP.below (Below.alloc (Below.refl _ w) (Nat.le_refl _) (.cells #[] 69)) hlt))
theorem infoFl : (Try.prog.info? 38).map (fun i => (i.zero, i.size, i.bytes)) = some (some (.agg #[.int .i64 0, .int .i64 0, .string ⟨#[]⟩, .string ⟨#[]⟩, .int .i64 0, .int .i64 0, .int .i64 0, .bool false]), 8, 80) := by kernel_rfl
/-- A copy came back. -/
def CopiedFl (n : Nat) (L : List Fl) (w : World) (e : Ending) (w' : World) : Prop := ∃ A cap, e = .returned (.slice A n cap) ∧ SlRows flV 8 w' A L ∧ Below w.heap.size w w'
def CopiedFlC (n : Nat) (L : List Fl) (w : World) (e : Ending) (w' : World) : Prop := ∃ A cap, e = .returned (.slice A n cap) ∧ SlRows flV 8 w' A L ∧ (A = none → cap = 0) ∧ Below w.heap.size w w'
theorem flV_one : ∀ g, ∀ u ∈ flV g, u.oneCell' = true := by
  intro g u hu
  simp [flV] at hu
  rcases hu with rfl | rfl | rfl | rfl | rfl | rfl | rfl | rfl <;> rfl
theorem copyFl_some (L : List Fl) (ad : Addr) (cap : Nat) (w : World) (hl : L.length ≤ 1000000) (hP : ∀ j u, (rowsV flV L)[j]? = some u → (w.alloc (.cells #[] 38)).cell? (ad.add j) = some u) :
    Calls Try.prog 16 #[.slice (some ad) L.length cap] w (CopiedFlC L.length L w) := by
  have HC := Lib.hid hP
  have HO := Lib.hid (World.ownsRow_made (base := w.heap.size) (e := 38) (size := 8) w #[] 0 (Nat.le_refl _) (by simp) (by simp))
  obtain ⟨i0, hi, hz0, hz1, hz2⟩ := info_partsF infoFl
  have HI := Lib.hid hi
  have HZ0 := Lib.hid hz0
  have HZ1 := Lib.hid hz1
  have HZ2 := Lib.hid hz2
  have HL := Lib.hid (rowsV_len (f := flV) (n := 8) (fun _ => rfl) L)
  have HF := Lib.hid (rows_one flV_one L)
  clear hP hi hz0 hz1 hz2
  go_enter Try.func16, Try.ntmps16
  go_wp2_with (at_builtin; refine wpList_append_own_at _ rfl _ _ 23 rfl w.heap.size 38 i0 (.agg #[.int .i64 0, .int .i64 0, .string ⟨#[]⟩, .string ⟨#[]⟩, .int .i64 0, .int .i64 0, .int .i64 0, .bool false]) 8 80 Try.underlying23 HI.out HZ0.out HZ1.out HZ2.out rfl (by decide) _ 0 [] rfl HO.out ad L.length cap (rowsV flV L) rfl HL.out HC.out HF.out ?c1 ?c2 ?c3 ?_)
  case c1 => unfold maxLen; omega
  case c2 => omega
  case c3 => simp
  intro v' w1 hown hgrow _ hblk
  have hB : Below w.heap.size w w1 := ((Below.refl w.heap.size w).alloc (Nat.le_refl _) _).grown hgrow (by simp) (by intro k hk; simp [Value.ownBlock] at hk; omega)
  (try simp only [Nat.zero_add, List.nil_append] at hown)
  obtain ⟨A, cp, rfl, hS, _, hN, _, _⟩ := SlRows_own (f := flV) (n := 8) (fun _ => rfl) hown
  have HS := Lib.hid hS
  clear hown hgrow hblk hS
  go_wp2
  go_ret
  exact ⟨A, cp, rfl, HS.out, hN, hB⟩
theorem copyFl_nil (w : World) : Calls Try.prog 16 #[.slice none 0 0] w (CopiedFlC 0 [] w) := by
  have HO := Lib.hid (World.ownsRow_made (base := w.heap.size) (e := 38) (size := 8) w #[] 0 (Nat.le_refl _) (by simp) (by simp))
  obtain ⟨i0, hi, hz0, hz1, hz2⟩ := info_partsF infoFl
  have HI := Lib.hid hi
  clear hi hz0 hz1 hz2
  go_enter Try.func16, Try.ntmps16
  go_wp2_with (at_builtin; refine wpList_append_own_none rfl _ _ 23 rfl w.heap.size 38 i0 8 Try.underlying23 HI.out _ 0 [] rfl HO.out rfl ?_)
  go_ret
  exact ⟨some ⟨w.heap.size, 0, none⟩, 0, rfl, Or.inl rfl, (fun h => by cases h), belA⟩
theorem copyFl_anyC (L : List Fl) (A : Option Addr) (cap : Nat) (w : World) (hl : L.length ≤ 1000000) (hc : A = none → cap = 0) (hS : SlRows flV 8 w A L) :
    Calls Try.prog 16 #[.slice A L.length cap] w (CopiedFlC L.length L w) := by
  rcases hS with rfl | ⟨c, off, rfl, hlt, hP⟩
  · cases A with
    | none => rw [hc rfl]; exact copyFl_nil w
    | some ad => exact copyFl_some [] ad cap w (by simp) (by intro j u h; simp [rowsV] at h)
  · exact copyFl_some L _ cap w hl (rowsV_cells (f := flV) (n := 8) (fun _ => rfl) (by decide) (hP.below (Below.alloc (Below.refl _ w) (Nat.le_refl _) (.cells #[] 38)) hlt))
theorem copyFl_any (L : List Fl) (A : Option Addr) (cap : Nat) (w : World) (hl : L.length ≤ 1000000) (hc : A = none → cap = 0) (hS : SlRows flV 8 w A L) :
    Calls Try.prog 16 #[.slice A L.length cap] w (CopiedFl L.length L w) :=
  (copyFl_anyC L A cap w hl hc hS).mono fun _ _ ⟨A, c, h1, h2, _, h4⟩ => ⟨A, c, h1, h2, h4⟩
end Go.Proofs.Ytjkhjjmmkdfjmaa
