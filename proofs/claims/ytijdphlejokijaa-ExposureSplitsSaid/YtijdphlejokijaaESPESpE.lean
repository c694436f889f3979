import Derived.Test.YtijdphlejokijaaESPESpDs
import Derived.Test.YtijdphlejokijaaESPESplP
import Derived.Outline
namespace Go.Proofs.Ytijdphlejokijaa
open Go.ChangeShapes Go.WideShapes Go.ChangeAt Go.RowKit
set_option linter.unusedVariables false
set_option linter.unusedSimpArgs false
theorem mid_bd {a d s q m : Int} (q0 : 0 < q) (q1 : q < s) (a0 : 0 ≤ a) (a1 : a ≤ 30000) (d0 : 0 ≤ d) (d1 : d ≤ 30000) (h : (d - a) * q = s * m) : -30000 ≤ m ∧ m ≤ 30000 ∧ 0 ≤ a + m ∧ a + m ≤ 30000 := by
  rcases Int.le_total a d with h1 | h1
  · have k1 : 0 ≤ (d - a) * q := Int.mul_nonneg (by omega) (by omega)
    have k2 : (d - a) * q ≤ (d - a) * s := Int.mul_le_mul_of_nonneg_left (by omega) (by omega)
    have m0 : 0 ≤ m := Int.not_lt.1 fun hm => by
      have : s * m < 0 := Int.mul_neg_of_pos_of_neg (by omega) hm
      omega
    have m1 : m ≤ d - a := Int.not_lt.1 fun hm => by
      have : s * (d - a) < s * m := Int.mul_lt_mul_of_pos_left hm (by omega)
      rw [Int.mul_comm s (d - a)] at this
      omega
    omega
  · have k1 : 0 ≤ (a - d) * q := Int.mul_nonneg (by omega) (by omega)
    have k2 : (a - d) * q ≤ (a - d) * s := Int.mul_le_mul_of_nonneg_left (by omega) (by omega)
    have k3 : (d - a) * q = -((a - d) * q) := by rw [← Int.neg_mul]; congr 1; omega
    have m0 : m ≤ 0 := Int.not_lt.1 fun hm => by
      have : 0 < s * m := Int.mul_pos (by omega) hm
      omega
    have m1 : d - a ≤ m := Int.not_lt.1 fun hm => by
      have : s * m < s * (d - a) := Int.mul_lt_mul_of_pos_left hm (by omega)
      have k4 : s * (d - a) = -((a - d) * s) := by rw [← Int.neg_mul, Int.mul_comm]; congr 1; omega
      omega
    omega
theorem divided_bad (nm : ByteArray) (s : Int) (G : List Ga) (D : List Le) (A B : Option Addr) (gn gc dn dc : Nat) (k : Nat) (q : Int) (w : World) (hz : nm.size ≤ 9223372036854775807) (hgn : Hid (gn = G.length)) (hgl : gn ≤ 1000000) (hdn : Hid (dn = D.length)) (hdl : dn ≤ 60) (hG : Hid (SlRows gaV 2 w A G)) (hD : Hid (SlRows leV 3 w B D)) (CG : Hid (A = none → gn = 0 ∧ gc = 0)) (CD : Hid (B = none → dn = 0 ∧ dc = 0)) (hok : Hid (PlnOk nm s G D)) (hk : k < dn) (q0 : 0 ≤ q) (q1 : q ≤ 1000000) (hbad : ¬ (0 < q ∧ q < (legK s G D k).s ∧ mdI (((legK s G D k).d - (legK s G D k).bd) * q) (legK s G D k).s = 0)) :
    Calls Try.prog 30 #[.agg #[.string nm, .int .i64 s, .slice A gn gc, .slice B dn dc], .int .i64 (k : Int), .int .i64 q] w fun e w' => e = .returned (.tuple #[.agg #[.string nm, .int .i64 s, .slice A gn gc, .slice B dn dc], .bool false]) ∧ Below w.heap.size w w' := by
  have hkD : k < D.length := by have := hdn.out; omega
  obtain ⟨a1, a2, a3, a4, a5, a6⟩ := hok.out.le _ (List.getElem_mem hkD)
  have e : D[k]? = some ⟨D[k].s, D[k].d, D[k].g⟩ := List.getElem?_eq_getElem hkD
  have hs : (legK s G D k).s = D[k].s := by show (D.getD k default).s = _; rw [getD_leE hkD]
  have hd : (legK s G D k).d = D[k].d := by show (D.getD k default).d = _; rw [getD_leE hkD]
  have hb : (legK s G D k).bd = (ptK D k).d := rfl
  have hbd := (legK_ok hok.out hkD).bd
  rw [hb] at hbd
  rw [hs, hd, hb] at hbad
  by_cases h1 : q ≤ 0 ∨ D[k].s ≤ q
  · by_cases hk0 : k = 0
    · exact div_secz nm s G D A B gn gc dn dc k q _ _ _ _ w hz hgn hgl hdn hdl hG hD CG CD hk (Lib.hid e) (Lib.hid rfl) a1 a2 a3 a4 hbd.1 hbd.2 q0 q1 hk0 h1
    · exact div_secs nm s G D A B gn gc dn dc k q _ _ _ _ w hz hgn hgl hdn hdl hG hD CG CD hk (Lib.hid e) (Lib.hid rfl) a1 a2 a3 a4 hbd.1 hbd.2 q0 q1 hk0 h1
  · have h2 : 0 < q := by omega
    have h3 : q < D[k].s := by omega
    have h4 : (mdI ((D[k].d - (ptK D k).d) * q) D[k].s != 0) = true := by
      simpa using fun h => hbad ⟨h2, h3, h⟩
    by_cases hk0 : k = 0
    · exact div_modz nm s G D A B gn gc dn dc k q _ _ _ _ _ w hz hgn hgl hdn hdl hG hD CG CD hk (Lib.hid e) (Lib.hid rfl) a1 a2 a3 a4 hbd.1 hbd.2 q0 q1 hk0 h2 h3 (Lib.hid rfl) h4
    · exact div_mods nm s G D A B gn gc dn dc k q _ _ _ _ _ w hz hgn hgl hdn hdl hG hD CG CD hk (Lib.hid e) (Lib.hid rfl) a1 a2 a3 a4 hbd.1 hbd.2 q0 q1 hk0 h2 h3 (Lib.hid rfl) h4
theorem divided_good (nm : ByteArray) (s : Int) (G : List Ga) (D : List Le) (A B : Option Addr) (gn gc dn dc : Nat) (k : Nat) (q m f z d g : Int) (w : World) (hz : nm.size ≤ 9223372036854775807) (hgn : Hid (gn = G.length)) (hgl : gn ≤ 1000000) (hdn : Hid (dn = D.length)) (hdl : dn ≤ 60) (hG : Hid (SlRows gaV 2 w A G)) (hD : Hid (SlRows leV 3 w B D)) (CG : Hid (A = none → gn = 0 ∧ gc = 0)) (CD : Hid (B = none → dn = 0 ∧ dc = 0)) (hok : Hid (PlnOk nm s G D)) (hdc : Hid (dn ≤ dc)) (hk : k < dn) (q0 : 0 < q) (q1 : q < (legK s G D k).s) (hm : Hid (((legK s G D k).d - (legK s G D k).bd) * q = (legK s G D k).s * m)) (hmd : Hid (mdI (((legK s G D k).d - (legK s G D k).bd) * q) (legK s G D k).s = 0)) (hf : (legK s G D k).bd + m = f) (hzz : (legK s G D k).s - q = z) (hdd : (legK s G D k).d = d) (hg : (D.getD k default).g = g) :
    Calls Try.prog 30 #[.agg #[.string nm, .int .i64 s, .slice A gn gc, .slice B dn dc], .int .i64 (k : Int), .int .i64 q] w (DivP nm s G (divL D k q f z d g) gn dn (decide ((dn : Int) + 1 ≤ 60)) w) := by
  have hkD : k < D.length := by have := hdn.out; omega
  obtain ⟨a1, a2, a3, a4, a5, a6⟩ := hok.out.le _ (List.getElem_mem hkD)
  have e : D[k]? = some ⟨D[k].s, D[k].d, D[k].g⟩ := List.getElem?_eq_getElem hkD
  have hs : (legK s G D k).s = D[k].s := by show (D.getD k default).s = _; rw [getD_leE hkD]
  have hd : (legK s G D k).d = D[k].d := by show (D.getD k default).d = _; rw [getD_leE hkD]
  have hb : (legK s G D k).bd = (ptK D k).d := rfl
  have hbd := (legK_ok hok.out hkD).bd
  have hG0 := hok.out.g0
  have hm0 := hm.out
  have hmd0 := hmd.out
  subst hf
  subst hzz
  subst hdd
  subst hg
  rw [getD_leE hkD]
  rw [hb] at hbd
  rw [hs, hd, hb] at hm0 hmd0 ⊢
  rw [hs] at q1
  have hmb := mid_bd q0 q1 hbd.1 hbd.2 a3 a4 hm0
  unfold divL
  by_cases hk0 : k = 0
  · exact div_goodz nm s G D A B gn gc dn dc k q _ _ _ _ m w hz hgn hgl hdn hdl hG hD CG CD hk (Lib.hid e) (Lib.hid rfl) a1 a2 a3 a4 hbd.1 hbd.2 (by omega) (by omega) hk0 hdc q0 q1 (Lib.hid hmd0) (Lib.hid hm0) (by omega) hG0
  · exact div_goods nm s G D A B gn gc dn dc k q _ _ _ _ m w hz hgn hgl hdn hdl hG hD CG CD hk (Lib.hid e) (Lib.hid rfl) a1 a2 a3 a4 hbd.1 hbd.2 (by omega) (by omega) hk0 hdc q0 q1 (Lib.hid hmd0) (Lib.hid hm0) (by omega) hG0
end Go.Proofs.Ytijdphlejokijaa
