import Derived.Test.YtijdphlejokijaaESPECpA
import Derived.Test.YtijdphlejokijaaESPESplM
import Derived.Test.YtijdphlejokijaaESPERct
import Derived.Test.YtijdphlejokijaaESPERfP
import Derived.Test.YtijdphlejokijaaESPELeg
import Derived.Test.YtijdphlejokijaaESPECta
import Derived.Test.YtijdphlejokijaaESPEData
import Derived.Outline
namespace Go.Proofs.Ytijdphlejokijaa
open Go.ChangeShapes Go.WideShapes Go.ChangeAt Go.RowKit
set_option linter.unusedVariables false
set_option linter.unusedSimpArgs false
attribute [local go_sem ↓] Go.wp_at_zero Go.wp_at_succ
theorem spLe : ∀ g, (leV g).length = 3 := fun _ => rfl
def mdI (p b : Int) : Int := if p.tmod b < 0 then p.tmod b + b else p.tmod b
theorem md_bd (p : Int) {b : Int} (hb : 1 ≤ b) : -b < p.tmod b ∧ p.tmod b < b := by
  refine ⟨?_, Int.tmod_lt_of_pos _ (by omega)⟩
  by_cases hp : 0 ≤ p
  · have := Int.tmod_nonneg b hp; omega
  · have h1 := Int.tmod_lt_of_pos (-p) (show 0 < b by omega)
    rw [Int.neg_tmod] at h1
    omega
theorem mdI_z {p b : Int} (hb : 1 ≤ b) (h : mdI p b = 0) : ∃ m, p = b * m := by
  have h1 := md_bd p hb
  have h2 : p.tmod b = 0 := by unfold mdI at h; split at h <;> omega
  exact ⟨p.tdiv b, by have := Int.mul_tdiv_add_tmod p b; omega⟩
theorem spMod (p b r : Int) (w : World) (hb : 1 ≤ b) (hb2 : b ≤ 1000000000) (hr : Hid (mdI p b = r)) :
    Calls Try.prog 79 #[.int .i64 p, .int .i64 b] w fun e w' => e = .returned (.int .i64 r) ∧ Below w.heap.size w w' := by
  have bd := md_bd p hb
  have hb0 : b ≠ 0 := by omega
  have ew1 : IntKind.i64.wrap (p.tmod b) = p.tmod b := IntWalk.i64_in _ (by omega)
  by_cases hn : p.tmod b < 0
  · have hv : Hid (p.tmod b + b = r) := by show _ = _; rw [← hr.out, mdI, if_pos hn]
    have ew2 : IntKind.i64.wrap (p.tmod b + b) = p.tmod b + b := IntWalk.i64_in _ (by omega)
    have ew3 : wrap64 (p.tmod b + b) = p.tmod b + b := (IntWalk.i64_left _).symm.trans ew2
    clear hr
    go_enter Try.func79, Try.ntmps79
    go_wp2
    go_ret
    exact ⟨ret_int hv.out, Below.refl _ _⟩
  · have hv : Hid (p.tmod b = r) := by show _ = _; rw [← hr.out, mdI, if_neg hn]
    clear hr
    go_enter Try.func79, Try.ntmps79
    go_wp2
    go_ret
    exact ⟨ret_int hv.out, Below.refl _ _⟩
theorem spFloor (p b m : Int) (w : World) (hb : 1 ≤ b) (hb2 : b ≤ 1000000000) (hp : Hid (p = b * m)) (h1 : -1000000000000 ≤ p) (h2 : p ≤ 1000000000000) :
    Calls Try.prog 77 #[.int .i64 p, .int .i64 b] w fun e w' => e = .returned (.int .i64 m) ∧ Below w.heap.size w w' := by
  by_cases h : 0 ≤ p
  · refine (baseFloor_nn p b w h (by omega) (by omega) (by omega)).mono fun e w' k => ⟨?_, by rw [← k.2]; exact Below.refl _ _⟩
    rw [k.1, hp.out, Int.mul_ediv_cancel_left _ (by omega)]
  · obtain ⟨n, hn⟩ : ∃ n, p = -n := ⟨-p, by omega⟩
    subst hn
    refine (baseFloor_neg n b w (by omega) (by omega) (by omega) (by omega)).mono fun e w' k => ⟨?_, by rw [← k.2]; exact Below.refl _ _⟩
    have e1 : n = b * (-m) := by rw [Int.mul_neg]; have := hp.out; omega
    have e2 : n + b - 1 = (b - 1) + b * (-m) := by omega
    rw [k.1, e2, Int.add_mul_ediv_left _ _ (by omega), Int.ediv_eq_zero_of_lt (by omega) (by omega)]
    congr 2
    omega
/-- A row of the call's own. -/
def RowO (X : World) (N : Nat) (v : Value) (n : Nat) (xs : List Value) : Prop := N ≤ X.heap.size ∧ X.ownsRow N 79 3 v n xs
theorem RowO.below {X Y : World} {N : Nat} {v : Value} {n : Nat} {xs : List Value} (h : RowO X N v n xs) (hb : Below X.heap.size X Y) : RowO Y N v n xs := ⟨Nat.le_trans h.1 hb.size, own_belowG h.2 hb (Nat.le_refl _)⟩
theorem SlRows.other {α : Type} {f : α → List Value} {n : Nat} {u : World} {A : Option Addr} {L : List α} {c i : Nat} {l : List Value} (h : SlRows f n u A L) (hc : ∀ ad, A = some ad → ad.block ≠ c) : SlRows f n (stW u c i l) A L := by
  rcases h with e | ⟨b, off, rfl, hl, hR⟩
  · exact Or.inl e
  · exact Or.inr ⟨b, off, rfl, by rw [stW_size]; exact hl, hR.other (hc _ rfl)⟩
theorem sl_lt {α : Type} {f : α → List Value} {n : Nat} {w : World} {A : Option Addr} {L : List α} (h : SlRows f n w A L) (h0 : 0 < L.length) : ∀ ad, A = some ad → ad.block < w.heap.size := by
  rcases h with e | ⟨b, off, rfl, hl, _⟩
  · rw [e] at h0; simp at h0
  · intro ad had; cases had; exact hl
theorem own_slice {w : World} {base : Nat} {e : TypeId} {size k : Nat} {v : Value} {xs : List Value} (h : w.ownsRow base e size v k xs) : ∃ A c, v = .slice A k c := by
  rcases h.2 with ⟨rfl, h0⟩ | ⟨g, cap, cur, rfl, _⟩
  · exact ⟨none, 0, by simp_all⟩
  · exact ⟨_, _, rfl⟩
theorem rowO_sl {X : World} {N : Nat} {B8 : Option Addr} {n c : Nat} {xs : List Value} {D9 : List Le} (h : RowO X N (.slice B8 n c) n xs) (hl : D9.length = n) (hx : rowsV leV D9 = xs) : SlRows leV 3 X B8 D9 ∧ (∀ ad, B8 = some ad → N ≤ ad.block) ∧ (B8 = none → c = 0) := by
  subst hl
  subst hx
  obtain ⟨A, c', h3, h4, h5, h6, _⟩ := SlRows_own (f := leV) (n := 3) (L := D9) spLe h.2
  cases h3
  exact ⟨h4, h5, h6⟩
theorem oper_append_slS {P : Program} {w : World} {o : Oper} {a : Act} {K : Act → World → Prop} {Q : Exit → Act → World → Prop} (s x : Operand) (t : TypeId)
    (ho : o.op = .call { callee := .builtin .append, args := #[s, x], argTypes := #[t, t] })
    (base : Nat) (e : TypeId) (i : TypeInfo) (z : Value) (size bytes : Nat) (ht : P.underlying t = some (.slice e)) (hi : P.info? e = some i) (hz : i.zero = some z)
    (hsize : i.size = size) (hby : i.bytes = bytes) (hzs : z.cells.size = size) (hsz : 0 < size)
    (v : Value) (n : Nat) (xs : List Value) (hs : a.eval s = v) (hown : w.ownsRow base e size v n xs)
    (C : Option Addr) (m c : Nat) (news : List Value) (hx : a.eval x = .slice C m c) (hC : C = none → m = 0 ∧ c = 0) (hl : news.length = m * size) (hnews : ∀ ad, C = some ad → ∀ j u, news[j]? = some u → w.cell? (ad.add j) = some u) (h1 : ∀ u ∈ news, u.oneCell' = true)
    (h63 : n + m ≤ maxLen) (hbytes : (n + m) * bytes ≤ 140737488355328) (hbase : base ≤ w.heap.size) (n3 : Nat) (hn3 : n + m = n3)
    (h : ∀ B8 c8 w', w'.ownsRow base e size (.slice B8 n3 c8) n3 (xs ++ news) → w.grownBy w' v.ownBlock → (∀ k, (Value.slice B8 n3 c8).ownBlock = some k → v.ownBlock = some k ∨ w.heap.size ≤ k) → K (a.put o.dst (.slice B8 n3 c8)) w') : o.wp P a w K Q := by
  subst hn3
  refine oper_append_slG s x t ho base e i z size bytes ht hi hz hsize hby hzs hsz v n xs hs hown C m c news hx hC hl hnews h1 h63 hbytes hbase (fun v' w' k1 k2 k3 => ?_)
  obtain ⟨A, c', rfl⟩ := own_slice k1
  exact h A c' w' k1 k2 k3
theorem blkF_cellsEq {u v : World} {B b : Nat} {vs : List Value} (h : BlkF u B b vs) (hs : u.heap.size ≤ v.heap.size) (e : v.heap[b]? = u.heap[b]?) : BlkF v B b vs :=
  ⟨h.ge, Nat.lt_of_lt_of_le h.lt hs, fun i x hv => (World.cell?_of_block (a := ⟨b, i, none⟩) e).trans (h.at' i x hv), fun j => (World.frozen?_of_block (a := ⟨b, j, none⟩) e).trans (h.fz j)⟩
theorem sl_cellsEq {α : Type} {f : α → List Value} {n : Nat} {u v : World} {A : Option Addr} {L : List α} (h : SlRows f n u A L) (hs : u.heap.size ≤ v.heap.size) (hc : ∀ ad, A = some ad → v.heap[ad.block]? = u.heap[ad.block]?) : SlRows f n v A L := by
  rcases h with e | ⟨b, off, rfl, hl, hR⟩
  · exact Or.inl e
  · exact Or.inr ⟨b, off, rfl, Nat.lt_of_lt_of_le hl hs, fun k hk i hi => (World.cell?_of_block (a := ⟨b, off + k * n + i, none⟩) (hc ⟨b, off, none⟩ rfl)).trans (hR k hk i hi)⟩
theorem blkF_grown {u v : World} {B b : Nat} {vs : List Value} {row : Option Nat} (h : BlkF u B b vs) (hg : u.grownBy v row) (hr : some b ≠ row) : BlkF v B b vs := by
  have e := hg.block b h.lt hr
  refine ⟨h.ge, Nat.lt_of_lt_of_le h.lt hg.size, fun i v hv => (World.cell?_of_block (a := ⟨b, i, none⟩) e).trans (h.at' i v hv), fun j => (World.frozen?_of_block (a := ⟨b, j, none⟩) e).trans (h.fz j)⟩
set_option maxRecDepth 100000 in
set_option maxHeartbeats 4000000 in
theorem div_secz (nm : ByteArray) (s : Int) (G : List Ga) (D : List Le) (A B : Option Addr) (gn gc dn dc : Nat) (k : Nat) (q s9 d9 g9 bd : Int) (w : World) (hz : nm.size ≤ 9223372036854775807) (hgn : Hid (gn = G.length)) (hgl : gn ≤ 1000000) (hdn : Hid (dn = D.length)) (hdl : dn ≤ 60) (hG : Hid (SlRows gaV 2 w A G)) (hD : Hid (SlRows leV 3 w B D)) (CG : Hid (A = none → gn = 0 ∧ gc = 0)) (CD : Hid (B = none → dn = 0 ∧ dc = 0)) (hk : k < dn) (hs9 : Hid (D[k]? = some ⟨s9, d9, g9⟩)) (hb9 : Hid ((ptK D k).d = bd)) (s0 : 1 ≤ s9) (s1 : s9 ≤ 1000000) (d0 : 0 ≤ d9) (d1 : d9 ≤ 30000) (b0 : 0 ≤ bd) (b1 : bd ≤ 30000) (q0 : 0 ≤ q) (q1 : q ≤ 1000000) (hkz : k = 0) (hbad : q ≤ 0 ∨ s9 ≤ q) :
    Calls Try.prog 30 #[.agg #[.string nm, .int .i64 s, .slice A gn gc, .slice B dn dc], .int .i64 (k : Int), .int .i64 q] w fun e w' => e = .returned (.tuple #[.agg #[.string nm, .int .i64 s, .slice A gn gc, .slice B dn dc], .bool false]) ∧ Below w.heap.size w w' := by
  have hkD : k < D.length := by have := hdn.out; omega
  obtain ⟨lb, lo, rfl, hll, hR⟩ := hD.out.at' hkD
  have e9 : D[k] = ⟨s9, d9, g9⟩ := by have := hs9.out; rw [List.getElem?_eq_getElem hkD] at this; exact Option.some.inj this
  obtain ⟨f0, f1, f2⟩ := le_at hR hkD
  rw [e9] at f0 f1 f2
  have ln1 : lb ≠ w.heap.size := by omega
  have ln2 : lb ≠ w.heap.size + 1 := by omega
  have ln3 : lb ≠ w.heap.size + 1 + 1 := by omega
  have lm1 : lb < w.heap.size + 1 := by omega
  have lm2 : lb < w.heap.size + 1 + 1 := by omega
  have lm3 : lb < w.heap.size + 1 + 1 + 1 := by omega
  have kk0 : ¬ (k : Int) < 0 := by omega
  have kk1 : (k : Int) < (dn : Int) := by omega
  have hk0 : k = 0 := hkz
  have h0 : ¬ (0 : Int) < (k : Int) := by omega
  have h0n : ¬ 0 < k := by omega
  have hbd0 : bd = 0 := by rw [← hb9.out]; unfold ptK; rw [if_pos hk0]
  subst hbd0
  clear hk0 hkz
  have m1 := mul_bd d0 d1 q0 q1
  have m2 := mul_bd b0 b1 q0 q1
  obtain ⟨n9, hn9⟩ : ∃ z, (d9 - (0 : Int)) * q = z := ⟨_, rfl⟩
  have hn9b : -30000000000 ≤ n9 ∧ n9 ≤ 30000000000 := by rw [← hn9, Int.sub_mul]; omega
  have w1 : IntKind.i64.wrap (d9 - (0 : Int)) = d9 - (0 : Int) := IntWalk.i64_in _ (by omega)
  have w2 : IntKind.i64.wrap ((d9 - (0 : Int)) * q) = n9 := by rw [IntWalk.i64_in _ (by omega)]; exact hn9
  have w1' : IntKind.i64.wrap d9 = d9 := IntWalk.i64_in _ (by omega)
  have w2' : IntKind.i64.wrap (d9 * q) = n9 := by rw [← w2]; congr 2; omega
  have HN9 := Lib.hid hn9
  clear m1 m2 hn9 hR e9
  go_enter Try.func30, Try.ntmps30
  by_cases hq : q ≤ 0
  · go_wp2
    refine bodyPost_ret (v := .tuple #[.agg #[.string nm, .int .i64 s, .slice A gn gc, .slice (some ⟨lb, lo, none⟩) dn dc], .bool false]) (by simp [results, Try.results30, go_sem, *]) rfl ⟨rfl, ?_⟩
    (repeat (first | (with_reducible refine Below.drew ?_) | (with_reducible refine below_drewN ?_ _) | (with_reducible refine Below.alloc ?_ (by first | omega | (simp; done) | (simp; omega) | (simp at *; omega)) _) | (with_reducible refine Below.setCell ?_ (by first | omega | (simp; done) | (simp; omega) | (simp at *; omega)) _) | (with_reducible exact Below.refl _ _) | (with_reducible assumption) | (with_reducible refine Below.trans ?_ (Below.mono (by assumption) (by first | omega | (simp; done) | (simp; omega) | (simp at *; omega))))))
  · have hsq : s9 ≤ q := by omega
    go_wp2
    refine bodyPost_ret (v := .tuple #[.agg #[.string nm, .int .i64 s, .slice A gn gc, .slice (some ⟨lb, lo, none⟩) dn dc], .bool false]) (by simp [results, Try.results30, go_sem, *]) rfl ⟨rfl, ?_⟩
    (repeat (first | (with_reducible refine Below.drew ?_) | (with_reducible refine below_drewN ?_ _) | (with_reducible refine Below.alloc ?_ (by first | omega | (simp; done) | (simp; omega) | (simp at *; omega)) _) | (with_reducible refine Below.setCell ?_ (by first | omega | (simp; done) | (simp; omega) | (simp at *; omega)) _) | (with_reducible exact Below.refl _ _) | (with_reducible assumption) | (with_reducible refine Below.trans ?_ (Below.mono (by assumption) (by first | omega | (simp; done) | (simp; omega) | (simp at *; omega))))))
set_option maxRecDepth 100000 in
set_option maxHeartbeats 4000000 in
theorem div_modz (nm : ByteArray) (s : Int) (G : List Ga) (D : List Le) (A B : Option Addr) (gn gc dn dc : Nat) (k : Nat) (q s9 d9 g9 bd : Int) (r9 : Int) (w : World) (hz : nm.size ≤ 9223372036854775807) (hgn : Hid (gn = G.length)) (hgl : gn ≤ 1000000) (hdn : Hid (dn = D.length)) (hdl : dn ≤ 60) (hG : Hid (SlRows gaV 2 w A G)) (hD : Hid (SlRows leV 3 w B D)) (CG : Hid (A = none → gn = 0 ∧ gc = 0)) (CD : Hid (B = none → dn = 0 ∧ dc = 0)) (hk : k < dn) (hs9 : Hid (D[k]? = some ⟨s9, d9, g9⟩)) (hb9 : Hid ((ptK D k).d = bd)) (s0 : 1 ≤ s9) (s1 : s9 ≤ 1000000) (d0 : 0 ≤ d9) (d1 : d9 ≤ 30000) (b0 : 0 ≤ bd) (b1 : bd ≤ 30000) (q0 : 0 ≤ q) (q1 : q ≤ 1000000) (hkz : k = 0) (hq0 : 0 < q) (hqs : q < s9) (hmod : Hid (mdI ((d9 - bd) * q) s9 = r9)) (hr9 : (r9 != 0) = true) :
    Calls Try.prog 30 #[.agg #[.string nm, .int .i64 s, .slice A gn gc, .slice B dn dc], .int .i64 (k : Int), .int .i64 q] w fun e w' => e = .returned (.tuple #[.agg #[.string nm, .int .i64 s, .slice A gn gc, .slice B dn dc], .bool false]) ∧ Below w.heap.size w w' := by
  have hkD : k < D.length := by have := hdn.out; omega
  obtain ⟨lb, lo, rfl, hll, hR⟩ := hD.out.at' hkD
  have e9 : D[k] = ⟨s9, d9, g9⟩ := by have := hs9.out; rw [List.getElem?_eq_getElem hkD] at this; exact Option.some.inj this
  obtain ⟨f0, f1, f2⟩ := le_at hR hkD
  rw [e9] at f0 f1 f2
  have ln1 : lb ≠ w.heap.size := by omega
  have ln2 : lb ≠ w.heap.size + 1 := by omega
  have ln3 : lb ≠ w.heap.size + 1 + 1 := by omega
  have lm1 : lb < w.heap.size + 1 := by omega
  have lm2 : lb < w.heap.size + 1 + 1 := by omega
  have lm3 : lb < w.heap.size + 1 + 1 + 1 := by omega
  have kk0 : ¬ (k : Int) < 0 := by omega
  have kk1 : (k : Int) < (dn : Int) := by omega
  have hk0 : k = 0 := hkz
  have h0 : ¬ (0 : Int) < (k : Int) := by omega
  have h0n : ¬ 0 < k := by omega
  have hbd0 : bd = 0 := by rw [← hb9.out]; unfold ptK; rw [if_pos hk0]
  subst hbd0
  clear hk0 hkz
  have m1 := mul_bd d0 d1 q0 q1
  have m2 := mul_bd b0 b1 q0 q1
  obtain ⟨n9, hn9⟩ : ∃ z, (d9 - (0 : Int)) * q = z := ⟨_, rfl⟩
  have hn9b : -30000000000 ≤ n9 ∧ n9 ≤ 30000000000 := by rw [← hn9, Int.sub_mul]; omega
  have w1 : IntKind.i64.wrap (d9 - (0 : Int)) = d9 - (0 : Int) := IntWalk.i64_in _ (by omega)
  have w2 : IntKind.i64.wrap ((d9 - (0 : Int)) * q) = n9 := by rw [IntWalk.i64_in _ (by omega)]; exact hn9
  have w1' : IntKind.i64.wrap d9 = d9 := IntWalk.i64_in _ (by omega)
  have w2' : IntKind.i64.wrap (d9 * q) = n9 := by rw [← w2]; congr 2; omega
  have HN9 := Lib.hid hn9
  clear m1 m2 hn9 hR e9
  have hmd : Hid (mdI n9 s9 = r9) := Lib.hid (by rw [← HN9.out]; exact hmod.out)
  have qa : ¬ q ≤ 0 := by omega
  have qb : ¬ s9 ≤ q := by omega
  go_enter Try.func30, Try.ntmps30
  go_wp2_with fail
  refine (spMod n9 s9 r9 _ s0 (by omega) hmd).mono ?_
  rintro e x1 ⟨rfl, hb1⟩
  have hc1 : Below w.heap.size w x1 := ((((Below.refl _ _).alloc (by first | exact Nat.le_refl _ | (simp; done) | (simp; omega)) _).alloc (by first | exact Nat.le_refl _ | (simp; done) | (simp; omega)) _).alloc (by first | exact Nat.le_refl _ | (simp; done) | (simp; omega)) _).trans (hb1.mono (by first | exact Nat.le_refl _ | (simp; done) | (simp; omega)))
  have hB1 : Below w.heap.size w x1 := hc1
  have zu1 := hB1.size
  have PB : Hid (BlkF x1 w.heap.size (w.heap.size) [.string nm, .int .i64 s, .slice A gn gc, .slice (some ⟨lb, lo, none⟩) dn dc]) := Lib.hid ((((BlkF.made (B := w.heap.size) w [.string nm, .int .i64 s, .slice A gn gc, .slice (some ⟨lb, lo, none⟩) dn dc] 40 (by first | exact Nat.le_refl _ | (simp; done) | (simp; omega))).below ((Below.refl _ _).alloc (Nat.le_refl _) _)).below ((Below.refl _ _).alloc (Nat.le_refl _) _)).below hb1)
  have zPB1 := PB.out.lt
  have RB : Hid (BlkF x1 w.heap.size (w.heap.size + 1) [.string { data := #[] }, .int .i64 0, .slice none 0 0, .slice none 0 0]) := Lib.hid (by have := ((BlkF.made (B := w.heap.size) (w.alloc (.cells #[.string nm, .int .i64 s, .slice A gn gc, .slice (some ⟨lb, lo, none⟩) dn dc] 40)) [.string { data := #[] }, .int .i64 0, .slice none 0 0, .slice none 0 0] 40 (by first | exact Nat.le_refl _ | (simp; done) | (simp; omega))).below ((Below.refl _ _).alloc (Nat.le_refl _) _)).below hb1; simpa using this)
  have zRB1 := RB.out.lt
  have XB : Hid (BlkF x1 w.heap.size (w.heap.size + 1 + 1) [.int .i64 s9, .int .i64 d9, .int .i64 g9]) := Lib.hid (by have := (BlkF.made (B := w.heap.size) ((w.alloc (.cells #[.string nm, .int .i64 s, .slice A gn gc, .slice (some ⟨lb, lo, none⟩) dn dc] 40)).alloc (.cells #[.string { data := #[] }, .int .i64 0, .slice none 0 0, .slice none 0 0] 40)) [.int .i64 s9, .int .i64 d9, .int .i64 g9] 79 (by first | exact Nat.le_refl _ | (simp; done) | (simp; omega))).below hb1; simpa using this)
  have zXB1 := XB.out.lt
  clear hb1
  obtain ⟨PB_1_0, PB_1_1, PB_1_2, PB_1_3⟩ := b4 PB.out
  have lPB_1 := PB.out.lt
  have nPB_1 : x1.heap.size ≠ w.heap.size := by omega
  have mPB_1 : w.heap.size ≠ x1.heap.size := by omega
  obtain ⟨RB_1_0, RB_1_1, RB_1_2, RB_1_3⟩ := b4 RB.out
  have lRB_1 := RB.out.lt
  have nRB_1 : x1.heap.size ≠ w.heap.size + 1 := by omega
  have mRB_1 : w.heap.size + 1 ≠ x1.heap.size := by omega
  obtain ⟨XB_1_0, XB_1_1, XB_1_2⟩ := b3 XB.out
  have lXB_1 := XB.out.lt
  have nXB_1 : x1.heap.size ≠ w.heap.size + 1 + 1 := by omega
  have mXB_1 : w.heap.size + 1 + 1 ≠ x1.heap.size := by omega
  have RBf := RB.out.fz
  go_wp2
  refine bodyPost_ret (v := .tuple #[.agg #[.string nm, .int .i64 s, .slice A gn gc, .slice (some ⟨lb, lo, none⟩) dn dc], .bool false]) (by simp [results, Try.results30, go_sem, *]) rfl ⟨rfl, ?_⟩
  (repeat (first | (with_reducible refine Below.drew ?_) | (with_reducible refine below_drewN ?_ _) | (with_reducible refine Below.alloc ?_ (by first | omega | (simp; done) | (simp; omega) | (simp at *; omega)) _) | (with_reducible refine Below.setCell ?_ (by first | omega | (simp; done) | (simp; omega) | (simp at *; omega)) _) | (with_reducible exact Below.refl _ _) | (with_reducible assumption) | (with_reducible refine Below.trans ?_ (Below.mono (by assumption) (by first | omega | (simp; done) | (simp; omega) | (simp at *; omega))))))
def DivP (nm : ByteArray) (s : Int) (G : List Ga) (D9 : List Le) (gn dn : Nat) (b : Bool) (w : World) (e : Ending) (w' : World) : Prop := ∃ (A9 : Option Addr) (ca : Nat) (B8 : Option Addr) (cb : Nat), e = .returned (.tuple #[.agg #[.string nm, .int .i64 s, .slice A9 gn ca, .slice B8 (dn + 1) cb], .bool b]) ∧ SlRows gaV 2 w' A9 G ∧ SlRows leV 3 w' B8 D9 ∧ (A9 = none → ca = 0) ∧ (B8 = none → cb = 0) ∧ Below w.heap.size w w'
theorem sl_drop {w : World} {b o : Nat} {A : Option Addr} {L : List Le} {m : Nat} (hA : A = some ⟨b, o + m * 3, none⟩) (h : SlRows leV 3 w (some ⟨b, o, none⟩) L) (m' : Nat) (hm : m' = m := by rfl) : SlRows leV 3 w A (L.drop m') := by
  subst hm
  rcases h with e | ⟨b', o', e, hl, hR⟩
  · exact Or.inl (by rw [e]; simp)
  · cases e
    refine Or.inr ⟨b, o + m' * 3, hA, hl, fun k hk i hi => ?_⟩
    have hk' : m' + k < L.length := by rw [List.length_drop] at hk; omega
    have := hR (m' + k) hk' i hi
    rw [List.getElem_drop]
    rw [← this]
    congr 2
    omega
set_option maxRecDepth 100000 in
set_option maxHeartbeats 24000000 in
theorem div_goodz (nm : ByteArray) (s : Int) (G : List Ga) (D : List Le) (A B : Option Addr) (gn gc dn dc : Nat) (k : Nat) (q s9 d9 g9 bd : Int) (m : Int) (w : World) (hz : nm.size ≤ 9223372036854775807) (hgn : Hid (gn = G.length)) (hgl : gn ≤ 1000000) (hdn : Hid (dn = D.length)) (hdl : dn ≤ 60) (hG : Hid (SlRows gaV 2 w A G)) (hD : Hid (SlRows leV 3 w B D)) (CG : Hid (A = none → gn = 0 ∧ gc = 0)) (CD : Hid (B = none → dn = 0 ∧ dc = 0)) (hk : k < dn) (hs9 : Hid (D[k]? = some ⟨s9, d9, g9⟩)) (hb9 : Hid ((ptK D k).d = bd)) (s0 : 1 ≤ s9) (s1 : s9 ≤ 1000000) (d0 : 0 ≤ d9) (d1 : d9 ≤ 30000) (b0 : 0 ≤ bd) (b1 : bd ≤ 30000) (q0 : 0 ≤ q) (q1 : q ≤ 1000000) (hkz : k = 0) (hdc : Hid (dn ≤ dc)) (hq0 : 0 < q) (hqs : q < s9) (hmod : Hid (mdI ((d9 - bd) * q) s9 = 0)) (hm : Hid ((d9 - bd) * q = s9 * m)) (hmb : -1000000 ≤ m ∧ m ≤ 1000000) (hG0 : 0 < G.length) :
    Calls Try.prog 30 #[.agg #[.string nm, .int .i64 s, .slice A gn gc, .slice B dn dc], .int .i64 (k : Int), .int .i64 q] w (DivP nm s G (D.take k ++ (⟨q, bd + m, g9⟩ :: ⟨s9 - q, d9, g9⟩ :: D.drop (k + 1))) gn dn (decide ((dn : Int) + 1 ≤ 60)) w) := by
  have hkD : k < D.length := by have := hdn.out; omega
  obtain ⟨lb, lo, rfl, hll, hR⟩ := hD.out.at' hkD
  have e9 : D[k] = ⟨s9, d9, g9⟩ := by have := hs9.out; rw [List.getElem?_eq_getElem hkD] at this; exact Option.some.inj this
  obtain ⟨f0, f1, f2⟩ := le_at hR hkD
  rw [e9] at f0 f1 f2
  have ln1 : lb ≠ w.heap.size := by omega
  have ln2 : lb ≠ w.heap.size + 1 := by omega
  have ln3 : lb ≠ w.heap.size + 1 + 1 := by omega
  have lm1 : lb < w.heap.size + 1 := by omega
  have lm2 : lb < w.heap.size + 1 + 1 := by omega
  have lm3 : lb < w.heap.size + 1 + 1 + 1 := by omega
  have kk0 : ¬ (k : Int) < 0 := by omega
  have kk1 : (k : Int) < (dn : Int) := by omega
  have hk0 : k = 0 := hkz
  have h0 : ¬ (0 : Int) < (k : Int) := by omega
  have h0n : ¬ 0 < k := by omega
  have hbd0 : bd = 0 := by rw [← hb9.out]; unfold ptK; rw [if_pos hk0]
  subst hbd0
  clear hk0 hkz
  have m1 := mul_bd d0 d1 q0 q1
  have m2 := mul_bd b0 b1 q0 q1
  obtain ⟨n9, hn9⟩ : ∃ z, (d9 - (0 : Int)) * q = z := ⟨_, rfl⟩
  have hn9b : -30000000000 ≤ n9 ∧ n9 ≤ 30000000000 := by rw [← hn9, Int.sub_mul]; omega
  have w1 : IntKind.i64.wrap (d9 - (0 : Int)) = d9 - (0 : Int) := IntWalk.i64_in _ (by omega)
  have w2 : IntKind.i64.wrap ((d9 - (0 : Int)) * q) = n9 := by rw [IntWalk.i64_in _ (by omega)]; exact hn9
  have w1' : IntKind.i64.wrap d9 = d9 := IntWalk.i64_in _ (by omega)
  have w2' : IntKind.i64.wrap (d9 * q) = n9 := by rw [← w2]; congr 2; omega
  have HN9 := Lib.hid hn9
  clear m1 m2 hn9 hR e9
  have hmd : Hid (mdI n9 s9 = 0) := Lib.hid (by rw [← HN9.out]; exact hmod.out)
  have hnm : Hid (n9 = s9 * m) := Lib.hid (by rw [← HN9.out]; exact hm.out)
  have qa : ¬ q ≤ 0 := by omega
  have qb : ¬ s9 ≤ q := by omega
  obtain ⟨f9, hf9⟩ : ∃ z, Hid ((0 : Int) + m = z) := ⟨_, Lib.hid rfl⟩
  obtain ⟨z9, hz9⟩ : ∃ z, Hid (s9 - q = z) := ⟨_, Lib.hid rfl⟩
  have wf : IntKind.i64.wrap ((0 : Int) + m) = f9 := by rw [IntWalk.i64_in _ (by omega)]; exact hf9.out
  have wz : IntKind.i64.wrap (s9 - q) = z9 := by rw [IntWalk.i64_in _ (by omega)]; exact hz9.out
  have wm : IntKind.i64.wrap m = f9 := by rw [IntWalk.i64_in _ (by omega)]; have := hf9.out; omega
  obtain ⟨i0, hi0, hz0', hz1', hz2'⟩ := info_partsG infoLeC
  have HI := Lib.hid hi0
  have HZ0 := Lib.hid hz0'
  have HZ1 := Lib.hid hz1'
  have HZ2 := Lib.hid hz2'
  clear hi0 hz0' hz1' hz2'
  go_enter Try.func30, Try.ntmps30
  go_wp2_with fail
  refine (spMod n9 s9 0 _ s0 (by omega) hmd).mono ?_
  rintro e x1 ⟨rfl, hb1⟩
  have hc1 : Below w.heap.size w x1 := ((((Below.refl _ _).alloc (by first | exact Nat.le_refl _ | (simp; done) | (simp; omega)) _).alloc (by first | exact Nat.le_refl _ | (simp; done) | (simp; omega)) _).alloc (by first | exact Nat.le_refl _ | (simp; done) | (simp; omega)) _).trans (hb1.mono (by first | exact Nat.le_refl _ | (simp; done) | (simp; omega)))
  have hB1 : Below w.heap.size w x1 := hc1
  have zu1 := hB1.size
  have PB : Hid (BlkF x1 w.heap.size (w.heap.size) [.string nm, .int .i64 s, .slice A gn gc, .slice (some ⟨lb, lo, none⟩) dn dc]) := Lib.hid ((((BlkF.made (B := w.heap.size) w [.string nm, .int .i64 s, .slice A gn gc, .slice (some ⟨lb, lo, none⟩) dn dc] 40 (by first | exact Nat.le_refl _ | (simp; done) | (simp; omega))).below ((Below.refl _ _).alloc (Nat.le_refl _) _)).below ((Below.refl _ _).alloc (Nat.le_refl _) _)).below hb1)
  have zPB1 := PB.out.lt
  have RB : Hid (BlkF x1 w.heap.size (w.heap.size + 1) [.string { data := #[] }, .int .i64 0, .slice none 0 0, .slice none 0 0]) := Lib.hid (by have := ((BlkF.made (B := w.heap.size) (w.alloc (.cells #[.string nm, .int .i64 s, .slice A gn gc, .slice (some ⟨lb, lo, none⟩) dn dc] 40)) [.string { data := #[] }, .int .i64 0, .slice none 0 0, .slice none 0 0] 40 (by first | exact Nat.le_refl _ | (simp; done) | (simp; omega))).below ((Below.refl _ _).alloc (Nat.le_refl _) _)).below hb1; simpa using this)
  have zRB1 := RB.out.lt
  have XB : Hid (BlkF x1 w.heap.size (w.heap.size + 1 + 1) [.int .i64 s9, .int .i64 d9, .int .i64 g9]) := Lib.hid (by have := (BlkF.made (B := w.heap.size) ((w.alloc (.cells #[.string nm, .int .i64 s, .slice A gn gc, .slice (some ⟨lb, lo, none⟩) dn dc] 40)).alloc (.cells #[.string { data := #[] }, .int .i64 0, .slice none 0 0, .slice none 0 0] 40)) [.int .i64 s9, .int .i64 d9, .int .i64 g9] 79 (by first | exact Nat.le_refl _ | (simp; done) | (simp; omega))).below hb1; simpa using this)
  have zXB1 := XB.out.lt
  clear hb1
  obtain ⟨PB_1_0, PB_1_1, PB_1_2, PB_1_3⟩ := b4 PB.out
  have lPB_1 := PB.out.lt
  have nPB_1 : x1.heap.size ≠ w.heap.size := by omega
  have mPB_1 : w.heap.size ≠ x1.heap.size := by omega
  obtain ⟨RB_1_0, RB_1_1, RB_1_2, RB_1_3⟩ := b4 RB.out
  have lRB_1 := RB.out.lt
  have nRB_1 : x1.heap.size ≠ w.heap.size + 1 := by omega
  have mRB_1 : w.heap.size + 1 ≠ x1.heap.size := by omega
  obtain ⟨XB_1_0, XB_1_1, XB_1_2⟩ := b3 XB.out
  have lXB_1 := XB.out.lt
  have nXB_1 : x1.heap.size ≠ w.heap.size + 1 + 1 := by omega
  have mXB_1 : w.heap.size + 1 + 1 ≠ x1.heap.size := by omega
  go_wp2_with fail
  refine (copyPA_is nm s G D A (some ⟨lb, lo, none⟩) gn gc dn dc _ hgn hdn hgl (by omega) (Lib.hid (hG.out.below hB1)) (Lib.hid (hD.out.below hB1)) CG CD).mono ?_
  rintro e x2 ⟨A9, ca, B9, cb, rfl, hsg, _, hna, _, hag, hb2⟩
  have hc2 : Below x1.heap.size x1 x2 := hb2
  have hB2 : Below w.heap.size w x2 := hB1.trans (hc2.mono hB1.size)
  have zu2 := hB2.size
  replace PB := Lib.hid (PB.out.below hc2)
  replace RB := Lib.hid (RB.out.below hc2)
  replace XB := Lib.hid (XB.out.below hc2)
  have HGA := Lib.hid hsg
  have HNA := Lib.hid hna
  have HAG := Lib.hid hag
  have HAL := Lib.hid (sl_lt hsg hG0)
  have hx12 := hb2.size
  clear hsg hna hag
  clear PB_1_0 PB_1_1 PB_1_2 PB_1_3 lPB_1 nPB_1 mPB_1 RB_1_0 RB_1_1 RB_1_2 RB_1_3 lRB_1 nRB_1 mRB_1 XB_1_0 XB_1_1 XB_1_2 lXB_1 nXB_1 mXB_1
  clear hb2 hB1 zu1 hc1
  obtain ⟨PB_2_0, PB_2_1, PB_2_2, PB_2_3⟩ := b4 PB.out
  have lPB_2 := PB.out.lt
  have nPB_2 : x2.heap.size ≠ w.heap.size := by omega
  have mPB_2 : w.heap.size ≠ x2.heap.size := by omega
  obtain ⟨RB_2_0, RB_2_1, RB_2_2, RB_2_3⟩ := b4 RB.out
  have lRB_2 := RB.out.lt
  have nRB_2 : x2.heap.size ≠ w.heap.size + 1 := by omega
  have mRB_2 : w.heap.size + 1 ≠ x2.heap.size := by omega
  obtain ⟨XB_2_0, XB_2_1, XB_2_2⟩ := b3 XB.out
  have lXB_2 := XB.out.lt
  have nXB_2 : x2.heap.size ≠ w.heap.size + 1 + 1 := by omega
  have mXB_2 : w.heap.size + 1 + 1 ≠ x2.heap.size := by omega
  go_upto_region 9 with (fail)
  refine wp_worldE (fun u => Below x2.heap.size x2 u ∧ BlkF u w.heap.size (x2.heap.size) [.string nm, .int .i64 s, .slice A9 gn ca, .slice B9 dn cb]) ⟨(Below.refl _ _).alloc (by first | exact Nat.le_refl _ | (simp; done) | (simp; omega)) _, BlkF.made (B := w.heap.size) x2 [.string nm, .int .i64 s, .slice A9 gn ca, .slice B9 dn cb] 40 (by first | exact Nat.le_refl _ | exact hB2.size | (simp; done) | (simp; omega))⟩ (fun x3 hu3 => ?_)
  obtain ⟨hc3, qQB⟩ := hu3
  have QB := Lib.hid qQB
  clear qQB
  have hB3 : Below w.heap.size w x3 := hB2.trans (hc3.mono hB2.size)
  have zu3 := hB3.size
  replace HGA := Lib.hid (HGA.out.below hc3)
  replace PB := Lib.hid (PB.out.below hc3)
  replace RB := Lib.hid (RB.out.below hc3)
  replace XB := Lib.hid (XB.out.below hc3)
  clear PB_2_0 PB_2_1 PB_2_2 PB_2_3 lPB_2 nPB_2 mPB_2 RB_2_0 RB_2_1 RB_2_2 RB_2_3 lRB_2 nRB_2 mRB_2 XB_2_0 XB_2_1 XB_2_2 lXB_2 nXB_2 mXB_2
  clear hB2 zu2 hc2
  obtain ⟨PB_3_0, PB_3_1, PB_3_2, PB_3_3⟩ := b4 PB.out
  have lPB_3 := PB.out.lt
  have nPB_3 : x3.heap.size ≠ w.heap.size := by omega
  have mPB_3 : w.heap.size ≠ x3.heap.size := by omega
  obtain ⟨RB_3_0, RB_3_1, RB_3_2, RB_3_3⟩ := b4 RB.out
  have lRB_3 := RB.out.lt
  have nRB_3 : x3.heap.size ≠ w.heap.size + 1 := by omega
  have mRB_3 : w.heap.size + 1 ≠ x3.heap.size := by omega
  obtain ⟨XB_3_0, XB_3_1, XB_3_2⟩ := b3 XB.out
  have lXB_3 := XB.out.lt
  have nXB_3 : x3.heap.size ≠ w.heap.size + 1 + 1 := by omega
  have mXB_3 : w.heap.size + 1 + 1 ≠ x3.heap.size := by omega
  obtain ⟨QB_3_0, QB_3_1, QB_3_2, QB_3_3⟩ := b4 QB.out
  have lQB_3 := QB.out.lt
  have nQB_3 : x3.heap.size ≠ x2.heap.size := by omega
  have mQB_3 : x2.heap.size ≠ x3.heap.size := by omega
  have hqge : x2.heap.size ≤ x2.heap.size := by omega
  obtain ⟨qb, hqb⟩ : ∃ z, x2.heap.size = z := ⟨_, rfl⟩
  rw [hqb] at QB lQB_3 nQB_3 mQB_3 hqge QB_3_0 QB_3_1 QB_3_2 QB_3_3 ⊢
  have hqx : w.heap.size + 1 + 1 < qb := by omega
  have hxx : w.heap.size + 1 + 1 < x3.heap.size := XB.out.lt
  have hqx3 : qb < x3.heap.size := QB.out.lt
  go_cut [12] from 51 (fun s12 wx => ∃ fb : Nat, s12 = .pointer (some ⟨fb, 0, none⟩) ∧ x3.heap.size ≤ fb ∧ Hid (BlkF wx w.heap.size fb [.int .i64 q, .int .i64 f9, .int .i64 g9]) ∧ Hid (BlkF wx w.heap.size w.heap.size [.string nm, .int .i64 s, .slice A gn gc, .slice (some ⟨lb, lo, none⟩) dn dc] ∧ BlkF wx w.heap.size (w.heap.size + 1) [.string { data := #[] }, .int .i64 0, .slice none 0 0, .slice none 0 0] ∧ BlkF wx w.heap.size (w.heap.size + 1 + 1) [.int .i64 s9, .int .i64 d9, .int .i64 g9] ∧ BlkF wx w.heap.size qb [.string nm, .int .i64 s, .slice A9 gn ca, .slice B9 dn cb] ∧ SlRows gaV 2 wx A9 G) ∧ Hid (Below w.heap.size w wx))
  case first =>
    have HS : Hid (∀ y, Below x3.heap.size x3 y → y.cell? ⟨w.heap.size + 1 + 1, 0, none⟩ = some (.int .i64 s9) ∧ y.cell? ⟨w.heap.size + 1 + 1, 1, none⟩ = some (.int .i64 d9) ∧ y.cell? ⟨w.heap.size + 1 + 1, 2, none⟩ = some (.int .i64 g9)) := Lib.hid fun y hy => ⟨(hy.cell (p := ⟨w.heap.size + 1 + 1, 0, none⟩) lXB_3).trans XB_3_0, (hy.cell (p := ⟨w.heap.size + 1 + 1, 1, none⟩) lXB_3).trans XB_3_1, (hy.cell (p := ⟨w.heap.size + 1 + 1, 2, none⟩) lXB_3).trans XB_3_2⟩
    refine wp_region_held_drew (S := (fun w' => w'.cell? ⟨w.heap.size + 1 + 1, 0, none⟩ = some (.int .i64 s9) ∧ w'.cell? ⟨w.heap.size + 1 + 1, 1, none⟩ = some (.int .i64 d9) ∧ w'.cell? ⟨w.heap.size + 1 + 1, 2, none⟩ = some (.int .i64 g9))) (by kernel_rfl) (HS.out _ (Below.refl _ _).drew) (fun hHeld => ?_)
    have hT0 : Below x3.heap.size x3 x3.drew := (Below.refl _ _).drew
    generalize hdr : x3.drew = y0 at *
    clear hdr
    refine tkH 0 ⟨some 51, _, _, _, _, _⟩ ?_ rfl ?_ (by assumption) ?_
    rotate_left
    · (intro w hSw; (try dsimp only at hSw); go_simp; all_goals with_reducible rfl)
    try simp only [Act.put, sA, sB, sC]
    refine tkH 1 ⟨some 52, _, _, _, _, _⟩ ?_ rfl ?_ (by assumption) ?_
    rotate_left
    · (intro w hSw; (try dsimp only at hSw); go_simp; all_goals with_reducible rfl)
    try simp only [Act.put, sA, sB, sC]
    refine tkH 2 ⟨some 53, _, _, _, _, _⟩ ?_ rfl ?_ (by assumption) ?_
    rotate_left
    · (intro w hSw; (try dsimp only at hSw); go_simp; all_goals with_reducible rfl)
    try simp only [Act.put, sA, sB, sC]
    refine tkH 3 ⟨some 54, _, _, _, _, _⟩ ?_ rfl ?_ (by assumption) ?_
    rotate_left
    · (intro w hSw; (try dsimp only at hSw); go_simp; all_goals with_reducible rfl)
    try simp only [Act.put, sA, sB, sC]
    refine tkH 4 ⟨some 55, _, _, _, _, _⟩ ?_ rfl ?_ (by assumption) ?_
    rotate_left
    · (intro w hSw; (try dsimp only at hSw); go_simp; all_goals with_reducible rfl)
    try simp only [Act.put, sA, sB, sC]
    refine tkH 7 ⟨some 58, _, _, _, _, _⟩ ?_ rfl ?_ (by assumption) ?_
    rotate_left
    · (intro w hSw; (try dsimp only at hSw); go_simp; all_goals with_reducible rfl)
    try simp only [Act.put, sA, sB, sC]
    refine tkH 8 ⟨some 59, _, _, _, _, _⟩ ?_ rfl ?_ (by assumption) ?_
    rotate_left
    · (intro w hSw; (try dsimp only at hSw); go_simp; all_goals with_reducible rfl)
    try simp only [Act.put, sA, sB, sC]
    refine wpAnyH_ready (rs := [5, 10]) (by kernel_rfl) (by simp) ?_
    refine AllReadyH.cons rfl (fun K hK => ?_) (AllReadyH.cons rfl (fun K hK => ?_) (AllReadyH.nil))
    · skip
      go_simp
      refine (spFloor n9 s9 m _ s0 (by omega) hnm (by omega) (by omega)).mono ?_
      rintro e y1 ⟨rfl, hby0⟩
      have hT1 : Below x3.heap.size x3 y1 := hT0.trans (hby0.mono hT0.size)
      clear hby0
      go_wp2_with fail
      refine hK.out _ _ (HS.out _ hT1) (fun hHeld => ?_)
      clear hK K
      try simp only [Act.put, sA, sB, sC]
      refine tkH 6 ⟨some 57, _, _, _, _, _⟩ ?_ rfl ?_ (by assumption) ?_
      rotate_left
      · (intro w hSw; (try dsimp only at hSw); go_simp; all_goals with_reducible rfl)
      try simp only [Act.put, sA, sB, sC]
      refine tkH 9 ⟨some 60, _, _, _, _, _⟩ ?_ rfl ?_ (by assumption) ?_
      rotate_left
      · (intro w hSw; (try dsimp only at hSw); go_simp; all_goals with_reducible rfl)
      try simp only [Act.put, sA, sB, sC]
      refine wpAnyH_ready (rs := [10]) (by kernel_rfl) (by simp) ?_
      refine AllReadyH.cons rfl (fun K hK => ?_) (AllReadyH.nil)
      go_simp
      go_wp2_with fail
      refine hK.out _ _ (HS.out _ (hT1.alloc hT1.size _)) (fun hHeld => ?_)
      clear hK K
      try simp only [Act.put, sA, sB, sC]
      have HNfb := Lib.hid (BlkF.made (B := x3.heap.size) y1 [.int .i64 0, .int .i64 0, .int .i64 0] 79 hT1.size)
      have hby1 : Below y1.heap.size y1 (y1.alloc (.cells #[.int .i64 0, .int .i64 0, .int .i64 0] 79)) := (Below.refl _ _).alloc (Nat.le_refl _) _
      have hnfb : x3.heap.size ≤ y1.heap.size := hT1.size
      have exfb : ∃ x, y1.heap.size = x := ⟨_, rfl⟩
      generalize hq1 : y1.alloc (.cells #[.int .i64 0, .int .i64 0, .int .i64 0] 79) = y2 at *
      have hT2 : Below x3.heap.size x3 y2 := hT1.trans (hby1.mono hT1.size)
      obtain ⟨fb, efb⟩ := exfb
      rw [efb] at HNfb hnfb ⊢
      clear hby1 hq1
      refine wpAnyH_ready (rs := [11]) (by kernel_rfl) (by simp) ?_
      refine AllReadyH.cons rfl (fun K hK => ?_) (AllReadyH.nil)
      have HBs : Hid (BlkF (((y2.setCell ⟨fb, 0, none⟩ (.int .i64 q)).setCell ⟨fb, 1, none⟩ (.int .i64 f9)).setCell ⟨fb, 2, none⟩ (.int .i64 g9)) x3.heap.size fb [.int .i64 q, .int .i64 f9, .int .i64 g9]) := Lib.hid (BlkF.st (vs' := [.int .i64 q, .int .i64 f9, .int .i64 g9]) HNfb.out rfl)
      have hTs : Below x3.heap.size x3 (((y2.setCell ⟨fb, 0, none⟩ (.int .i64 q)).setCell ⟨fb, 1, none⟩ (.int .i64 f9)).setCell ⟨fb, 2, none⟩ (.int .i64 g9)) := stW_below HNfb.out.ge [.int .i64 q, .int .i64 f9, .int .i64 g9] y2 0 hT2
      obtain ⟨u_0, u_1, u_2⟩ := b3 HNfb.out
      have u_f := HNfb.out.fz
      go_simp
      go_wp2_with fail
      refine hK.out _ _ (HS.out _ hTs) (fun hHeld => ?_)
      clear hK K
      try simp only [Act.put, sA, sB, sC]
      clear u_f u_0 u_1 u_2
      clear HNfb
      generalize hs2 : (((y2.setCell ⟨fb, 0, none⟩ (.int .i64 q)).setCell ⟨fb, 1, none⟩ (.int .i64 f9)).setCell ⟨fb, 2, none⟩ (.int .i64 g9)) = y3 at *
      clear hs2
      have hT3 := hTs
      clear hTs
      have HNfb := HBs
      clear HBs
      refine wpAnyH_done (by kernel_rfl) ?_ _
      go_wp2_with fail
      go_meet
      exact ⟨fb, rfl, HNfb.out.ge, Lib.hid (HNfb.out.lower hB3.size), Lib.hid ⟨PB.out.below hT3, RB.out.below hT3, XB.out.below hT3, QB.out.below hT3, HGA.out.below hT3⟩, Lib.hid (hB3.trans (hT3.mono hB3.size))⟩
    · skip
      go_simp
      go_wp2_with fail
      refine hK.out _ _ (HS.out _ (hT0.alloc hT0.size _)) (fun hHeld => ?_)
      clear hK K
      try simp only [Act.put, sA, sB, sC]
      have HNfb := Lib.hid (BlkF.made (B := x3.heap.size) y0 [.int .i64 0, .int .i64 0, .int .i64 0] 79 hT0.size)
      have hby0 : Below y0.heap.size y0 (y0.alloc (.cells #[.int .i64 0, .int .i64 0, .int .i64 0] 79)) := (Below.refl _ _).alloc (Nat.le_refl _) _
      have hnfb : x3.heap.size ≤ y0.heap.size := hT0.size
      have exfb : ∃ x, y0.heap.size = x := ⟨_, rfl⟩
      generalize hq0 : y0.alloc (.cells #[.int .i64 0, .int .i64 0, .int .i64 0] 79) = y1 at *
      have hT1 : Below x3.heap.size x3 y1 := hT0.trans (hby0.mono hT0.size)
      obtain ⟨fb, efb⟩ := exfb
      rw [efb] at HNfb hnfb ⊢
      clear hby0 hq0
      refine wpAnyH_ready (rs := [5]) (by kernel_rfl) (by simp) ?_
      refine AllReadyH.cons rfl (fun K hK => ?_) (AllReadyH.nil)
      go_simp
      refine (spFloor n9 s9 m _ s0 (by omega) hnm (by omega) (by omega)).mono ?_
      rintro e y2 ⟨rfl, hby1⟩
      have hT2 : Below x3.heap.size x3 y2 := hT1.trans (hby1.mono hT1.size)
      replace HNfb := Lib.hid (HNfb.out.below hby1)
      clear hby1
      go_wp2_with fail
      refine hK.out _ _ (HS.out _ hT2) (fun hHeld => ?_)
      clear hK K
      try simp only [Act.put, sA, sB, sC]
      refine tkH 6 ⟨some 57, _, _, _, _, _⟩ ?_ rfl ?_ (by assumption) ?_
      rotate_left
      · (intro w hSw; (try dsimp only at hSw); go_simp; all_goals with_reducible rfl)
      try simp only [Act.put, sA, sB, sC]
      refine tkH 9 ⟨some 60, _, _, _, _, _⟩ ?_ rfl ?_ (by assumption) ?_
      rotate_left
      · (intro w hSw; (try dsimp only at hSw); go_simp; all_goals with_reducible rfl)
      try simp only [Act.put, sA, sB, sC]
      refine wpAnyH_ready (rs := [11]) (by kernel_rfl) (by simp) ?_
      refine AllReadyH.cons rfl (fun K hK => ?_) (AllReadyH.nil)
      have HBs : Hid (BlkF (((y2.setCell ⟨fb, 0, none⟩ (.int .i64 q)).setCell ⟨fb, 1, none⟩ (.int .i64 f9)).setCell ⟨fb, 2, none⟩ (.int .i64 g9)) x3.heap.size fb [.int .i64 q, .int .i64 f9, .int .i64 g9]) := Lib.hid (BlkF.st (vs' := [.int .i64 q, .int .i64 f9, .int .i64 g9]) HNfb.out rfl)
      have hTs : Below x3.heap.size x3 (((y2.setCell ⟨fb, 0, none⟩ (.int .i64 q)).setCell ⟨fb, 1, none⟩ (.int .i64 f9)).setCell ⟨fb, 2, none⟩ (.int .i64 g9)) := stW_below HNfb.out.ge [.int .i64 q, .int .i64 f9, .int .i64 g9] y2 0 hT2
      obtain ⟨u_0, u_1, u_2⟩ := b3 HNfb.out
      have u_f := HNfb.out.fz
      go_simp
      go_wp2_with fail
      refine hK.out _ _ (HS.out _ hTs) (fun hHeld => ?_)
      clear hK K
      try simp only [Act.put, sA, sB, sC]
      clear u_f u_0 u_1 u_2
      clear HNfb
      generalize hs2 : (((y2.setCell ⟨fb, 0, none⟩ (.int .i64 q)).setCell ⟨fb, 1, none⟩ (.int .i64 f9)).setCell ⟨fb, 2, none⟩ (.int .i64 g9)) = y3 at *
      clear hs2
      have hT3 := hTs
      clear hTs
      have HNfb := HBs
      clear HBs
      refine wpAnyH_done (by kernel_rfl) ?_ _
      go_wp2_with fail
      go_meet
      exact ⟨fb, rfl, HNfb.out.ge, Lib.hid (HNfb.out.lower hB3.size), Lib.hid ⟨PB.out.below hT3, RB.out.below hT3, XB.out.below hT3, QB.out.below hT3, HGA.out.below hT3⟩, Lib.hid (hB3.trans (hT3.mono hB3.size))⟩
  case rest =>
    obtain ⟨fb, rfl, hgefb, fbB, hBL, hBc⟩ := hcut
    have hsx0 := hBL.out
    clear PB RB XB QB HGA PB_3_0 PB_3_1 PB_3_2 PB_3_3 lPB_3 nPB_3 mPB_3 RB_3_0 RB_3_1 RB_3_2 RB_3_3 lRB_3 nRB_3 mRB_3 XB_3_0 XB_3_1 XB_3_2 lXB_3 nXB_3 mXB_3 QB_3_0 QB_3_1 QB_3_2 QB_3_3 lQB_3 nQB_3 mQB_3 hc3
    obtain ⟨zPB, zRB, zXB, zQB, zGA⟩ := hsx0
    have PB := Lib.hid zPB
    have RB := Lib.hid zRB
    have XB := Lib.hid zXB
    have QB := Lib.hid zQB
    have HGA := Lib.hid zGA
    have hB4 := hBc.out
    have hzz : x3.heap.size ≤ x3.heap.size := Nat.le_refl _
    clear zPB zRB zXB zQB zGA hBL hBc
    obtain ⟨PB_4_0, PB_4_1, PB_4_2, PB_4_3⟩ := b4 PB.out
    have lPB_4 := PB.out.lt
    have nPB_4 : wc.heap.size ≠ w.heap.size := by omega
    have mPB_4 : w.heap.size ≠ wc.heap.size := by omega
    obtain ⟨RB_4_0, RB_4_1, RB_4_2, RB_4_3⟩ := b4 RB.out
    have lRB_4 := RB.out.lt
    have nRB_4 : wc.heap.size ≠ w.heap.size + 1 := by omega
    have mRB_4 : w.heap.size + 1 ≠ wc.heap.size := by omega
    obtain ⟨XB_4_0, XB_4_1, XB_4_2⟩ := b3 XB.out
    have lXB_4 := XB.out.lt
    have nXB_4 : wc.heap.size ≠ w.heap.size + 1 + 1 := by omega
    have mXB_4 : w.heap.size + 1 + 1 ≠ wc.heap.size := by omega
    obtain ⟨QB_4_0, QB_4_1, QB_4_2, QB_4_3⟩ := b4 QB.out
    have lQB_4 := QB.out.lt
    have nQB_4 : wc.heap.size ≠ qb := by omega
    have mQB_4 : qb ≠ wc.heap.size := by omega
    obtain ⟨fbB_4_0, fbB_4_1, fbB_4_2⟩ := b3 fbB.out
    have lfbB_4 := fbB.out.lt
    have nfbB_4 : wc.heap.size ≠ fb := by omega
    have mfbB_4 : fb ≠ wc.heap.size := by omega
    have zu4 := hB4.size
    have hc4 := hB4
    have XBf := XB.out.fz
    have QBf := QB.out.fz
    go_upto_region 11 with (fail)
    refine wp_worldE (fun u => Below w.heap.size w u ∧ BlkF u w.heap.size w.heap.size [.string nm, .int .i64 s, .slice A gn gc, .slice (some ⟨lb, lo, none⟩) dn dc] ∧ BlkF u w.heap.size (w.heap.size + 1) [.string { data := #[] }, .int .i64 0, .slice none 0 0, .slice none 0 0] ∧ BlkF u w.heap.size (w.heap.size + 1 + 1) [.int .i64 z9, .int .i64 d9, .int .i64 g9] ∧ BlkF u w.heap.size qb [.string nm, .int .i64 s, .slice A9 gn ca, .slice B9 dn cb] ∧ BlkF u w.heap.size fb [.int .i64 q, .int .i64 f9, .int .i64 g9] ∧ SlRows gaV 2 u A9 G) ⟨hB4.setCell (p := ⟨w.heap.size + 1 + 1, 0, none⟩) (show w.heap.size ≤ w.heap.size + 1 + 1 by omega) _, PB.out.other (c := w.heap.size + 1 + 1) (i := 0) (l := [.int .i64 z9]) (by omega), RB.out.other (c := w.heap.size + 1 + 1) (i := 0) (l := [.int .i64 z9]) (by omega), XB.out.put (i := 0) (.int .i64 z9) (by simp), QB.out.other (c := w.heap.size + 1 + 1) (i := 0) (l := [.int .i64 z9]) (by omega), fbB.out.other (c := w.heap.size + 1 + 1) (i := 0) (l := [.int .i64 z9]) (by omega), HGA.out.other (c := w.heap.size + 1 + 1) (i := 0) (l := [.int .i64 z9]) (fun ad had => by have := HAG.out ad had; omega)⟩ (fun u hu => ?_)
    obtain ⟨hBu, uPB, uRB, uXB, uQB, uFB, uGA⟩ := hu
    have HPBu := Lib.hid uPB
    clear uPB
    have HRBu := Lib.hid uRB
    clear uRB
    have HXBu := Lib.hid uXB
    clear uXB
    have HQBu := Lib.hid uQB
    clear uQB
    have HFBu := Lib.hid uFB
    clear uFB
    have HGAu := Lib.hid uGA
    clear uGA
    clear PB RB XB QB fbB HGA PB_4_0 PB_4_1 PB_4_2 PB_4_3 lPB_4 nPB_4 mPB_4 RB_4_0 RB_4_1 RB_4_2 RB_4_3 lRB_4 nRB_4 mRB_4 XB_4_0 XB_4_1 XB_4_2 lXB_4 nXB_4 mXB_4 QB_4_0 QB_4_1 QB_4_2 QB_4_3 lQB_4 nQB_4 mQB_4 fbB_4_0 fbB_4_1 fbB_4_2 lfbB_4 nfbB_4 mfbB_4 XBf QBf hB4 zu4 hc4
    obtain ⟨p0, p1', p2, p3⟩ := b4 HPBu.out
    obtain ⟨x0, x1', x2⟩ := b3 HXBu.out
    obtain ⟨y0, y1', y2⟩ := b3 HFBu.out
    have lPB := HPBu.out.lt
    have lXB := HXBu.out.lt
    have lFB := HFBu.out.lt
    have zuu := hBu.size
    have HDu := Lib.hid (hD.out.below hBu)
    have HS : Hid (∀ y, Below u.heap.size u y → y.cell? ⟨w.heap.size, 0, none⟩ = some (.string nm) ∧ y.cell? ⟨w.heap.size, 1, none⟩ = some (.int .i64 s) ∧ y.cell? ⟨w.heap.size, 2, none⟩ = some (.slice A gn gc) ∧ y.cell? ⟨w.heap.size, 3, none⟩ = some (.slice (some ⟨lb, lo, none⟩) dn dc) ∧ y.cell? ⟨(w.heap.size + 1 + 1), 0, none⟩ = some (.int .i64 z9) ∧ y.cell? ⟨(w.heap.size + 1 + 1), 1, none⟩ = some (.int .i64 d9) ∧ y.cell? ⟨(w.heap.size + 1 + 1), 2, none⟩ = some (.int .i64 g9) ∧ y.cell? ⟨fb, 0, none⟩ = some (.int .i64 q) ∧ y.cell? ⟨fb, 1, none⟩ = some (.int .i64 f9) ∧ y.cell? ⟨fb, 2, none⟩ = some (.int .i64 g9)) := Lib.hid fun y hy => ⟨(hy.cell (p := ⟨w.heap.size, 0, none⟩) lPB).trans p0, (hy.cell (p := ⟨w.heap.size, 1, none⟩) lPB).trans p1', (hy.cell (p := ⟨w.heap.size, 2, none⟩) lPB).trans p2, (hy.cell (p := ⟨w.heap.size, 3, none⟩) lPB).trans p3, (hy.cell (p := ⟨(w.heap.size + 1 + 1), 0, none⟩) lXB).trans x0, (hy.cell (p := ⟨(w.heap.size + 1 + 1), 1, none⟩) lXB).trans x1', (hy.cell (p := ⟨(w.heap.size + 1 + 1), 2, none⟩) lXB).trans x2, (hy.cell (p := ⟨fb, 0, none⟩) lFB).trans y0, (hy.cell (p := ⟨fb, 1, none⟩) lFB).trans y1', (hy.cell (p := ⟨fb, 2, none⟩) lFB).trans y2⟩
    clear p0 p1' p2 x0 x1' x2 y0 y1' y2 lPB lXB lFB
    have hqa : Hid (∀ ad, A9 = some ad → ad.block ≠ qb) := Lib.hid (fun ad had => by have := HAL.out ad had; omega)
    have hqr : Hid (∀ ad, A9 = some ad → w.heap.size + 1 + 1 < ad.block) := Lib.hid (fun ad had => by have := HAG.out ad had; omega)
    have wk : IntKind.i64.wrap ((k : Int) + 1) = (k : Int) + 1 := IntWalk.i64_in _ (by omega)
    have tk : ((k : Int) + 1).toNat = k + 1 := by omega
    have kc1 : (k : Int) + 1 ≤ (dn : Int) := by omega
    have kc2 : 0 ≤ (k : Int) + 1 := by omega
    have kc3 : (k : Int) ≤ (dc : Int) := by have := hdc.out; omega
    have kc4 : (dn : Int) ≤ (dc : Int) := by have := hdc.out; omega
    have kc5 : (0 : Int) ≤ (k : Int) := by omega
    obtain ⟨D9, hD9⟩ : ∃ z, Hid (D.take k ++ (⟨q, f9, g9⟩ :: ⟨z9, d9, g9⟩ :: D.drop (k + 1)) = z) := ⟨_, Lib.hid rfl⟩
    obtain ⟨n3, hn3⟩ : ∃ z, Hid (0 + k + 2 + (dn - (k + 1)) = z) := ⟨_, Lib.hid rfl⟩
    have hDl : Hid (D9.length = n3) := Lib.hid (by rw [← hD9.out]; simp only [List.length_append, List.length_take, List.length_cons, List.length_drop]; have := hdn.out; have := hn3.out; omega)
    have hDr : Hid (rowsV leV D9 = [] ++ (rowsV leV (D.take k)) ++ [.int .i64 q, .int .i64 f9, .int .i64 g9, .int .i64 z9, .int .i64 d9, .int .i64 g9] ++ (rowsV leV (D.drop (k + 1)))) := Lib.hid (by rw [← hD9.out, rowsV_appG]; simp [rowsV, leV])
    
    go_cut [12] from 66 (fun s12 vz => ∃ (B8 : Option Addr) (cb8 : Nat), s12 = .pointer (some ⟨fb, 0, none⟩) ∧ Hid (Below w.heap.size w vz) ∧ Hid (BlkF vz w.heap.size (w.heap.size + 1) [.string { data := #[] }, .int .i64 0, .slice none 0 0, .slice none 0 0]) ∧ Hid (BlkF vz w.heap.size qb [.string nm, .int .i64 s, .slice A9 gn ca, .slice B8 n3 cb8]) ∧ Hid (SlRows gaV 2 vz A9 G) ∧ Hid (SlRows leV 3 vz B8 D9) ∧ Hid (∀ ad, B8 = some ad → u.heap.size ≤ ad.block) ∧ Hid (B8 = none → cb8 = 0))
    case first =>
      by_cases hcap : dc = k + 1
      · subst hcap
        have kc9 : (k : Int) ≤ (k : Int) + 1 := by omega
        have kc8 : (dn : Int) ≤ (k : Int) + 1 := by have := hdc.out; omega
        have kc7 : dn = k + 1 ∨ True := Or.inr trivial
        have hnil : Hid (D.drop (k + 1) = []) := Lib.hid (by apply List.drop_eq_nil_of_le; have := hdc.out; have := hdn.out; omega)
        have HS3 : Hid (∀ y, Below u.heap.size u y → SlRows leV 3 y (some ⟨lb, lo, none⟩) (D.drop (k + 1))) := Lib.hid fun y hy => Or.inl hnil.out
        refine wp_region_held_drew (S := (fun w' => w'.cell? ⟨w.heap.size, 0, none⟩ = some (.string nm) ∧ w'.cell? ⟨w.heap.size, 1, none⟩ = some (.int .i64 s) ∧ w'.cell? ⟨w.heap.size, 2, none⟩ = some (.slice A gn gc) ∧ w'.cell? ⟨w.heap.size, 3, none⟩ = some (.slice (some ⟨lb, lo, none⟩) dn (k + 1)) ∧ w'.cell? ⟨(w.heap.size + 1 + 1), 0, none⟩ = some (.int .i64 z9) ∧ w'.cell? ⟨(w.heap.size + 1 + 1), 1, none⟩ = some (.int .i64 d9) ∧ w'.cell? ⟨(w.heap.size + 1 + 1), 2, none⟩ = some (.int .i64 g9) ∧ w'.cell? ⟨fb, 0, none⟩ = some (.int .i64 q) ∧ w'.cell? ⟨fb, 1, none⟩ = some (.int .i64 f9) ∧ w'.cell? ⟨fb, 2, none⟩ = some (.int .i64 g9))) (by kernel_rfl) (HS.out _ (Below.refl _ _).drew) (fun hHeld => ?_)
        have hT0 : Below u.heap.size u u.drew := (Below.refl _ _).drew
        generalize hdr : u.drew = v0 at *
        clear hdr
        refine tkH 1 ⟨some 67, _, _, _, _, _⟩ ?_ rfl ?_ (by assumption) ?_
        rotate_left
        · (intro w hSw; (try dsimp only at hSw); go_simp; all_goals with_reducible rfl)
        try simp only [Act.put, sA, sB, sC]
        refine tkH 2 ⟨some 68, _, _, _, _, _⟩ ?_ rfl ?_ (by assumption) ?_
        rotate_left
        · (intro w hSw; (try dsimp only at hSw); go_simp; all_goals with_reducible rfl)
        try simp only [Act.put, sA, sB, sC]
        refine tkH 3 ⟨some 69, _, _, _, _, _⟩ ?_ rfl ?_ (by assumption) ?_
        rotate_left
        · (intro w hSw; (try dsimp only at hSw); go_simp; all_goals with_reducible rfl)
        try simp only [Act.put, sA, sB, sC]
        refine tkH 4 ⟨some 70, _, _, _, _, _⟩ ?_ rfl ?_ (by assumption) ?_
        rotate_left
        · (intro w hSw; (try dsimp only at hSw); go_simp; all_goals with_reducible rfl)
        try simp only [Act.put, sA, sB, sC]
        refine tkH 6 ⟨some 72, _, _, _, _, _⟩ ?_ rfl ?_ (by assumption) ?_
        rotate_left
        · (intro w hSw; (try dsimp only at hSw); go_simp; all_goals with_reducible rfl)
        try simp only [Act.put, sA, sB, sC]
        refine tkH 7 ⟨some 73, _, _, _, _, _⟩ ?_ rfl ?_ (by assumption) ?_
        rotate_left
        · (intro w hSw; (try dsimp only at hSw); go_simp; all_goals with_reducible rfl)
        try simp only [Act.put, sA, sB, sC]
        refine tkH 10 ⟨some 76, _, _, _, _, _⟩ ?_ rfl ?_ (by assumption) ?_
        rotate_left
        · (intro w hSw; (try dsimp only at hSw); go_simp; all_goals with_reducible rfl)
        try simp only [Act.put, sA, sB, sC]
        refine tkH 11 ⟨some 77, _, _, _, _, _⟩ ?_ rfl ?_ (by assumption) ?_
        rotate_left
        · (intro w hSw; (try dsimp only at hSw); go_simp; all_goals with_reducible rfl)
        try simp only [Act.put, sA, sB, sC]
        refine tkH 12 ⟨some 78, _, _, _, _, _⟩ ?_ rfl ?_ (by assumption) ?_
        rotate_left
        · (intro w hSw; (try dsimp only at hSw); go_simp; all_goals with_reducible rfl)
        try simp only [Act.put, sA, sB, sC]
        refine tkH 13 ⟨some 79, _, _, _, _, _⟩ ?_ rfl ?_ (by assumption) ?_
        rotate_left
        · (intro w hSw; (try dsimp only at hSw); go_simp; all_goals with_reducible rfl)
        try simp only [Act.put, sA, sB, sC]
        refine tkH 14 ⟨some 80, _, _, _, _, _⟩ ?_ rfl ?_ (by assumption) ?_
        rotate_left
        · (intro w hSw; (try dsimp only at hSw); go_simp; all_goals with_reducible rfl)
        try simp only [Act.put, sA, sB, sC]
        refine wpAnyH_ready (rs := [0, 8]) (by kernel_rfl) (by simp) ?_
        refine AllReadyH.cons rfl (fun K hK => ?_) (AllReadyH.cons rfl (fun K hK => ?_) (AllReadyH.nil))
        · skip
          go_simp
          go_wp2_with fail
          refine hK.out _ _ (HS.out _ (hT0.alloc hT0.size _)) (fun hHeld => ?_)
          clear hK K
          try simp only [Act.put, sA, sB, sC]
          have HE0 : RowO (v0.alloc (.cells #[] 79)) u.heap.size (.slice (some ⟨v0.heap.size, 0, none⟩) 0 0) 0 [] := ⟨by have := hT0.size; simp; omega, own_emptyG hT0.size (World.alloc_heap_new v0 _)⟩
          have hbv0 : Below v0.heap.size v0 (v0.alloc (.cells #[] 79)) := (Below.refl _ _).alloc (Nat.le_refl _) _
          obtain ⟨eb, heb⟩ : ∃ z, v0.heap.size = z := ⟨_, rfl⟩
          have heb2 : eb < (v0.alloc (.cells #[] 79)).heap.size := by simp; omega
          generalize hq0 : v0.alloc (.cells #[] 79) = v1 at *
          have hT1 : Below u.heap.size u v1 := hT0.trans (hbv0.mono hT0.size)
          rw [heb] at HE0 ⊢
          have HO := Lib.hid HE0
          clear HE0 hbv0 hq0 heb
          refine wpAnyH_ready (rs := [5, 8]) (by kernel_rfl) (by simp) ?_
          refine AllReadyH.cons rfl (fun K hK => ?_) (AllReadyH.cons rfl (fun K hK => ?_) (AllReadyH.nil))
          · skip
            rw [if_pos (by kernel_rfl)]
            refine oper_append_slG _ _ 38 rfl u.heap.size 79 i0 (.agg #[.int .i64 0, .int .i64 0, .int .i64 0]) 3 24 Try.underlying38 HI.out HZ0.out HZ1.out HZ2.out rfl (by decide) (.slice (some ⟨eb, 0, none⟩) 0 0) 0 [] rfl HO.out.2 (some ⟨lb, lo, none⟩) k (k + 1) (rowsV leV (D.take k)) rfl (fun h => by cases h) (by rw [rowsV_len spLe]; congr 1; rw [List.length_take]; have := hdn.out; omega) (srcG spLe (by decide) ((HDu.out.below hT1).part k)) (rows_one leV_one _) (by unfold maxLen; omega) (by omega) HO.out.1 ?_
            intro r1 v2 hown hgrow hblk
            have hT2 : Below u.heap.size u v2 := hT1.grown hgrow hT1.size (fun r hr => (own_blockG HO.out.2 r hr).1)
            have HO1 : Hid (RowO v2 u.heap.size r1 (0 + k) ([] ++ (rowsV leV (D.take k)))) := Lib.hid ⟨hT2.size, hown⟩
            clear hown hgrow hblk HO
            skip
            refine hK.out _ _ (HS.out _ hT2) (fun hHeld => ?_)
            clear hK K
            try simp only [Act.put, sA, sB, sC]
            refine wpAnyH_ready (rs := [8]) (by kernel_rfl) (by simp) ?_
            refine AllReadyH.cons rfl (fun K hK => ?_) (AllReadyH.nil)
            go_simp
            go_wp2_with fail
            refine hK.out _ _ (HS.out _ (hT2.alloc hT2.size _)) (fun hHeld => ?_)
            clear hK K
            try simp only [Act.put, sA, sB, sC]
            have HNbb := Lib.hid (BlkF.made (B := u.heap.size) v2 [.int .i64 q, .int .i64 f9, .int .i64 g9, .int .i64 z9, .int .i64 d9, .int .i64 g9] 79 hT2.size)
            have hbv2 : Below v2.heap.size v2 (v2.alloc (.cells #[.int .i64 q, .int .i64 f9, .int .i64 g9, .int .i64 z9, .int .i64 d9, .int .i64 g9] 79)) := (Below.refl _ _).alloc (Nat.le_refl _) _
            replace HO1 := Lib.hid (HO1.out.below hbv2)
            obtain ⟨bb, hbb⟩ : ∃ z, v2.heap.size = z := ⟨_, rfl⟩
            generalize hq2 : v2.alloc (.cells #[.int .i64 q, .int .i64 f9, .int .i64 g9, .int .i64 z9, .int .i64 d9, .int .i64 g9] 79) = v3 at *
            have hT3 : Below u.heap.size u v3 := hT2.trans (hbv2.mono hT2.size)
            rw [hbb] at HNbb ⊢
            clear hbv2 hq2 hbb
            refine wpAnyH_ready (rs := [9]) (by kernel_rfl) (by simp) ?_
            refine AllReadyH.cons rfl (fun K hK => ?_) (AllReadyH.nil)
            rw [if_pos (by kernel_rfl)]
            refine oper_append_slG _ _ 38 rfl u.heap.size 79 i0 (.agg #[.int .i64 0, .int .i64 0, .int .i64 0]) 3 24 Try.underlying38 HI.out HZ0.out HZ1.out HZ2.out rfl (by decide) r1 (0 + k) ([] ++ (rowsV leV (D.take k))) rfl HO1.out.2 (some ⟨bb, 0, none⟩) 2 2 [.int .i64 q, .int .i64 f9, .int .i64 g9, .int .i64 z9, .int .i64 d9, .int .i64 g9] rfl (fun h => by cases h) rfl (fun ad had j v hj => by cases had; rw [addNR, Nat.zero_add]; exact HNbb.out.at' j v hj) (by intro v hv; simp at hv; rcases hv with rfl | rfl | rfl | rfl | rfl | rfl <;> rfl) (by unfold maxLen; omega) (by omega) HO1.out.1 ?_
            intro r2 v4 hown hgrow hblk
            have hT4 : Below u.heap.size u v4 := hT3.grown hgrow hT3.size (fun r hr => (own_blockG HO1.out.2 r hr).1)
            clear HNbb
            have HO2 : Hid (RowO v4 u.heap.size r2 ((0 + k) + 2) (([] ++ (rowsV leV (D.take k))) ++ [.int .i64 q, .int .i64 f9, .int .i64 g9, .int .i64 z9, .int .i64 d9, .int .i64 g9])) := Lib.hid ⟨hT4.size, hown⟩
            clear hown hgrow hblk HO1
            skip
            refine hK.out _ _ (HS.out _ hT4) (fun hHeld => ?_)
            clear hK K
            try simp only [Act.put, sA, sB, sC]
            refine wpAnyH_ready (rs := [15]) (by kernel_rfl) (by simp) ?_
            refine AllReadyH.cons rfl (fun K hK => ?_) (AllReadyH.nil)
            rw [if_pos (by kernel_rfl)]
            refine oper_append_slS _ _ 38 rfl u.heap.size 79 i0 (.agg #[.int .i64 0, .int .i64 0, .int .i64 0]) 3 24 Try.underlying38 HI.out HZ0.out HZ1.out HZ2.out rfl (by decide) r2 (0 + k + 2) ([] ++ (rowsV leV (D.take k)) ++ [.int .i64 q, .int .i64 f9, .int .i64 g9, .int .i64 z9, .int .i64 d9, .int .i64 g9]) rfl HO2.out.2 (some ⟨lb, lo, none⟩) (dn - (k + 1)) 0 (rowsV leV (D.drop (k + 1))) rfl (fun h => by cases h) (by rw [rowsV_len spLe]; congr 1; rw [List.length_drop]; have := hdn.out; omega) (srcG spLe (by decide) (HS3.out _ hT4)) (rows_one leV_one _) (by unfold maxLen; omega) (by omega) HO2.out.1 n3 hn3.out ?_
            intro B8 cb8 v5 hown hgrow hblk
            have hT5 : Below u.heap.size u v5 := hT4.grown hgrow hT4.size (fun r hr => (own_blockG HO2.out.2 r hr).1)
            have HO3 : Hid (RowO v5 u.heap.size (.slice B8 n3 cb8) n3 ([] ++ (rowsV leV (D.take k)) ++ [.int .i64 q, .int .i64 f9, .int .i64 g9, .int .i64 z9, .int .i64 d9, .int .i64 g9] ++ (rowsV leV (D.drop (k + 1))))) := Lib.hid ⟨hT5.size, hown⟩
            clear hown hgrow hblk HO2
            refine hK.out _ _ (HS.out _ hT5) (fun hHeld => ?_)
            clear hK K
            try simp only [Act.put, sA, sB, sC]
            refine tkH 16 ⟨some 82, _, _, _, _, _⟩ ?_ rfl ?_ (by assumption) ?_
            rotate_left
            · (intro w hSw; (try dsimp only at hSw); go_simp; all_goals with_reducible rfl)
            try simp only [Act.put, sA, sB, sC]
            refine wpAnyH_ready (rs := [17]) (by kernel_rfl) (by simp) ?_
            refine AllReadyH.cons rfl (fun K hK => ?_) (AllReadyH.nil)
            have hend8 := rowO_sl HO3.out hDl.out hDr.out
            have hs8 := hend8.1
            have hb8 := hend8.2.1
            have hn8 := hend8.2.2
            clear HO3 hend8
            have HL8 := Lib.hid hs8
            have HB8 := Lib.hid hb8
            have HN8 := Lib.hid hn8
            clear hs8 hb8 hn8
            have qf := (HQBu.out.below hT5).fz
            have z3 := (b4 (HQBu.out.below hT5)).2.2.2
            have hSs : (v5.setCell ⟨qb, 3, none⟩ (.slice B8 n3 cb8)).cell? ⟨w.heap.size, 0, none⟩ = some (.string nm) ∧ (v5.setCell ⟨qb, 3, none⟩ (.slice B8 n3 cb8)).cell? ⟨w.heap.size, 1, none⟩ = some (.int .i64 s) ∧ (v5.setCell ⟨qb, 3, none⟩ (.slice B8 n3 cb8)).cell? ⟨w.heap.size, 2, none⟩ = some (.slice A gn gc) ∧ (v5.setCell ⟨qb, 3, none⟩ (.slice B8 n3 cb8)).cell? ⟨w.heap.size, 3, none⟩ = some (.slice (some ⟨lb, lo, none⟩) dn (k + 1)) ∧ (v5.setCell ⟨qb, 3, none⟩ (.slice B8 n3 cb8)).cell? ⟨(w.heap.size + 1 + 1), 0, none⟩ = some (.int .i64 z9) ∧ (v5.setCell ⟨qb, 3, none⟩ (.slice B8 n3 cb8)).cell? ⟨(w.heap.size + 1 + 1), 1, none⟩ = some (.int .i64 d9) ∧ (v5.setCell ⟨qb, 3, none⟩ (.slice B8 n3 cb8)).cell? ⟨(w.heap.size + 1 + 1), 2, none⟩ = some (.int .i64 g9) ∧ (v5.setCell ⟨qb, 3, none⟩ (.slice B8 n3 cb8)).cell? ⟨fb, 0, none⟩ = some (.int .i64 q) ∧ (v5.setCell ⟨qb, 3, none⟩ (.slice B8 n3 cb8)).cell? ⟨fb, 1, none⟩ = some (.int .i64 f9) ∧ (v5.setCell ⟨qb, 3, none⟩ (.slice B8 n3 cb8)).cell? ⟨fb, 2, none⟩ = some (.int .i64 g9) := by
              obtain ⟨h0, h1, h2, h3, h4, h5, h6, h7, h8, h9⟩ := hHeld
              exact ⟨(World.cell?_of_block (a := ⟨w.heap.size, 0, none⟩) (Below.heap_setCell _ _ _ w.heap.size (show w.heap.size ≠ qb by omega))).trans h0, (World.cell?_of_block (a := ⟨w.heap.size, 1, none⟩) (Below.heap_setCell _ _ _ w.heap.size (show w.heap.size ≠ qb by omega))).trans h1, (World.cell?_of_block (a := ⟨w.heap.size, 2, none⟩) (Below.heap_setCell _ _ _ w.heap.size (show w.heap.size ≠ qb by omega))).trans h2, (World.cell?_of_block (a := ⟨w.heap.size, 3, none⟩) (Below.heap_setCell _ _ _ w.heap.size (show w.heap.size ≠ qb by omega))).trans h3, (World.cell?_of_block (a := ⟨(w.heap.size + 1 + 1), 0, none⟩) (Below.heap_setCell _ _ _ (w.heap.size + 1 + 1) (show (w.heap.size + 1 + 1) ≠ qb by omega))).trans h4, (World.cell?_of_block (a := ⟨(w.heap.size + 1 + 1), 1, none⟩) (Below.heap_setCell _ _ _ (w.heap.size + 1 + 1) (show (w.heap.size + 1 + 1) ≠ qb by omega))).trans h5, (World.cell?_of_block (a := ⟨(w.heap.size + 1 + 1), 2, none⟩) (Below.heap_setCell _ _ _ (w.heap.size + 1 + 1) (show (w.heap.size + 1 + 1) ≠ qb by omega))).trans h6, (World.cell?_of_block (a := ⟨fb, 0, none⟩) (Below.heap_setCell _ _ _ fb (show fb ≠ qb by omega))).trans h7, (World.cell?_of_block (a := ⟨fb, 1, none⟩) (Below.heap_setCell _ _ _ fb (show fb ≠ qb by omega))).trans h8, (World.cell?_of_block (a := ⟨fb, 2, none⟩) (Below.heap_setCell _ _ _ fb (show fb ≠ qb by omega))).trans h9⟩
            have HSs := Lib.hid hSs
            clear hSs
            go_simp
            go_wp2_with fail
            refine hK.out _ _ HSs.out (fun hHeld => ?_)
            clear hK K HSs qf z3
            try simp only [Act.put, sA, sB, sC]
            refine wpAnyH_done (by kernel_rfl) ?_ _
            have zB : Below w.heap.size w (v5.setCell ⟨qb, 3, none⟩ (.slice B8 n3 cb8)) := (hBu.trans (hT5.mono hBu.size)).setCell (p := ⟨qb, 3, none⟩) (show w.heap.size ≤ qb by omega) (.slice B8 n3 cb8)
            have zR : BlkF (v5.setCell ⟨qb, 3, none⟩ (.slice B8 n3 cb8)) w.heap.size (w.heap.size + 1) [.string { data := #[] }, .int .i64 0, .slice none 0 0, .slice none 0 0] := blkF_cellsEq (HRBu.out.below hT5) (by simp) (Below.heap_setCell _ _ _ _ (show w.heap.size + 1 ≠ qb by omega))
            have zQ : BlkF (v5.setCell ⟨qb, 3, none⟩ (.slice B8 n3 cb8)) w.heap.size qb [.string nm, .int .i64 s, .slice A9 gn ca, (.slice B8 n3 cb8)] := (HQBu.out.below hT5).put (i := 3) (.slice B8 n3 cb8) (by simp)
            have zG : SlRows gaV 2 (v5.setCell ⟨qb, 3, none⟩ (.slice B8 n3 cb8)) A9 G := sl_cellsEq (HGAu.out.below hT5) (by simp) (fun ad had => Below.heap_setCell _ _ _ _ (hqa.out ad had))
            have z3 : SlRows leV 3 (v5.setCell ⟨qb, 3, none⟩ (.slice B8 n3 cb8)) B8 D9 := sl_cellsEq HL8.out (by simp) (fun ad had => Below.heap_setCell _ _ _ _ (by have := HB8.out ad had; have := HQBu.out.lt; show ad.block ≠ qb; omega))
            have ZZ := Lib.hid (And.intro zB (And.intro zR (And.intro zQ (And.intro zG (And.intro z3 (And.intro HB8.out HN8.out))))))
            clear zB zR zQ zG z3 hHeld HS HL8 HB8 HN8
            go_wp2_with fail
            go_meet
            exact ⟨B8, cb8, rfl, Lib.hid ZZ.out.1, Lib.hid ZZ.out.2.1, Lib.hid ZZ.out.2.2.1, Lib.hid ZZ.out.2.2.2.1, Lib.hid ZZ.out.2.2.2.2.1, Lib.hid ZZ.out.2.2.2.2.2.1, Lib.hid ZZ.out.2.2.2.2.2.2⟩
          · skip
            go_simp
            go_wp2_with fail
            refine hK.out _ _ (HS.out _ (hT1.alloc hT1.size _)) (fun hHeld => ?_)
            clear hK K
            try simp only [Act.put, sA, sB, sC]
            have HNbb := Lib.hid (BlkF.made (B := u.heap.size) v1 [.int .i64 q, .int .i64 f9, .int .i64 g9, .int .i64 z9, .int .i64 d9, .int .i64 g9] 79 hT1.size)
            have hbv1 : Below v1.heap.size v1 (v1.alloc (.cells #[.int .i64 q, .int .i64 f9, .int .i64 g9, .int .i64 z9, .int .i64 d9, .int .i64 g9] 79)) := (Below.refl _ _).alloc (Nat.le_refl _) _
            have hEB : v1.heap.size ≠ eb := by omega
            replace HO := Lib.hid (HO.out.below hbv1)
            obtain ⟨bb, hbb⟩ : ∃ z, v1.heap.size = z := ⟨_, rfl⟩
            generalize hq1 : v1.alloc (.cells #[.int .i64 q, .int .i64 f9, .int .i64 g9, .int .i64 z9, .int .i64 d9, .int .i64 g9] 79) = v2 at *
            have hT2 : Below u.heap.size u v2 := hT1.trans (hbv1.mono hT1.size)
            rw [hbb] at HNbb ⊢ hEB
            clear hbv1 hq1 hbb
            refine wpAnyH_ready (rs := [5]) (by kernel_rfl) (by simp) ?_
            refine AllReadyH.cons rfl (fun K hK => ?_) (AllReadyH.nil)
            rw [if_pos (by kernel_rfl)]
            refine oper_append_slG _ _ 38 rfl u.heap.size 79 i0 (.agg #[.int .i64 0, .int .i64 0, .int .i64 0]) 3 24 Try.underlying38 HI.out HZ0.out HZ1.out HZ2.out rfl (by decide) (.slice (some ⟨eb, 0, none⟩) 0 0) 0 [] rfl HO.out.2 (some ⟨lb, lo, none⟩) k (k + 1) (rowsV leV (D.take k)) rfl (fun h => by cases h) (by rw [rowsV_len spLe]; congr 1; rw [List.length_take]; have := hdn.out; omega) (srcG spLe (by decide) ((HDu.out.below hT2).part k)) (rows_one leV_one _) (by unfold maxLen; omega) (by omega) HO.out.1 ?_
            intro r1 v3 hown hgrow hblk
            have hT3 : Below u.heap.size u v3 := hT2.grown hgrow hT2.size (fun r hr => (own_blockG HO.out.2 r hr).1)
            replace HNbb := Lib.hid (blkF_grown HNbb.out hgrow (by simp [Value.ownBlock]; exact hEB))
            have HO1 : Hid (RowO v3 u.heap.size r1 (0 + k) ([] ++ (rowsV leV (D.take k)))) := Lib.hid ⟨hT3.size, hown⟩
            clear hown hgrow hblk HO
            skip
            refine hK.out _ _ (HS.out _ hT3) (fun hHeld => ?_)
            clear hK K
            try simp only [Act.put, sA, sB, sC]
            refine wpAnyH_ready (rs := [9]) (by kernel_rfl) (by simp) ?_
            refine AllReadyH.cons rfl (fun K hK => ?_) (AllReadyH.nil)
            rw [if_pos (by kernel_rfl)]
            refine oper_append_slG _ _ 38 rfl u.heap.size 79 i0 (.agg #[.int .i64 0, .int .i64 0, .int .i64 0]) 3 24 Try.underlying38 HI.out HZ0.out HZ1.out HZ2.out rfl (by decide) r1 (0 + k) ([] ++ (rowsV leV (D.take k))) rfl HO1.out.2 (some ⟨bb, 0, none⟩) 2 2 [.int .i64 q, .int .i64 f9, .int .i64 g9, .int .i64 z9, .int .i64 d9, .int .i64 g9] rfl (fun h => by cases h) rfl (fun ad had j v hj => by cases had; rw [addNR, Nat.zero_add]; exact HNbb.out.at' j v hj) (by intro v hv; simp at hv; rcases hv with rfl | rfl | rfl | rfl | rfl | rfl <;> rfl) (by unfold maxLen; omega) (by omega) HO1.out.1 ?_
            intro r2 v4 hown hgrow hblk
            have hT4 : Below u.heap.size u v4 := hT3.grown hgrow hT3.size (fun r hr => (own_blockG HO1.out.2 r hr).1)
            clear HNbb
            have HO2 : Hid (RowO v4 u.heap.size r2 ((0 + k) + 2) (([] ++ (rowsV leV (D.take k))) ++ [.int .i64 q, .int .i64 f9, .int .i64 g9, .int .i64 z9, .int .i64 d9, .int .i64 g9])) := Lib.hid ⟨hT4.size, hown⟩
            clear hown hgrow hblk HO1
            skip
            refine hK.out _ _ (HS.out _ hT4) (fun hHeld => ?_)
            clear hK K
            try simp only [Act.put, sA, sB, sC]
            refine wpAnyH_ready (rs := [15]) (by kernel_rfl) (by simp) ?_
            refine AllReadyH.cons rfl (fun K hK => ?_) (AllReadyH.nil)
            rw [if_pos (by kernel_rfl)]
            refine oper_append_slS _ _ 38 rfl u.heap.size 79 i0 (.agg #[.int .i64 0, .int .i64 0, .int .i64 0]) 3 24 Try.underlying38 HI.out HZ0.out HZ1.out HZ2.out rfl (by decide) r2 (0 + k + 2) ([] ++ (rowsV leV (D.take k)) ++ [.int .i64 q, .int .i64 f9, .int .i64 g9, .int .i64 z9, .int .i64 d9, .int .i64 g9]) rfl HO2.out.2 (some ⟨lb, lo, none⟩) (dn - (k + 1)) 0 (rowsV leV (D.drop (k + 1))) rfl (fun h => by cases h) (by rw [rowsV_len spLe]; congr 1; rw [List.length_drop]; have := hdn.out; omega) (srcG spLe (by decide) (HS3.out _ hT4)) (rows_one leV_one _) (by unfold maxLen; omega) (by omega) HO2.out.1 n3 hn3.out ?_
            intro B8 cb8 v5 hown hgrow hblk
            have hT5 : Below u.heap.size u v5 := hT4.grown hgrow hT4.size (fun r hr => (own_blockG HO2.out.2 r hr).1)
            have HO3 : Hid (RowO v5 u.heap.size (.slice B8 n3 cb8) n3 ([] ++ (rowsV leV (D.take k)) ++ [.int .i64 q, .int .i64 f9, .int .i64 g9, .int .i64 z9, .int .i64 d9, .int .i64 g9] ++ (rowsV leV (D.drop (k + 1))))) := Lib.hid ⟨hT5.size, hown⟩
            clear hown hgrow hblk HO2
            refine hK.out _ _ (HS.out _ hT5) (fun hHeld => ?_)
            clear hK K
            try simp only [Act.put, sA, sB, sC]
            refine tkH 16 ⟨some 82, _, _, _, _, _⟩ ?_ rfl ?_ (by assumption) ?_
            rotate_left
            · (intro w hSw; (try dsimp only at hSw); go_simp; all_goals with_reducible rfl)
            try simp only [Act.put, sA, sB, sC]
            refine wpAnyH_ready (rs := [17]) (by kernel_rfl) (by simp) ?_
            refine AllReadyH.cons rfl (fun K hK => ?_) (AllReadyH.nil)
            have hend8 := rowO_sl HO3.out hDl.out hDr.out
            have hs8 := hend8.1
            have hb8 := hend8.2.1
            have hn8 := hend8.2.2
            clear HO3 hend8
            have HL8 := Lib.hid hs8
            have HB8 := Lib.hid hb8
            have HN8 := Lib.hid hn8
            clear hs8 hb8 hn8
            have qf := (HQBu.out.below hT5).fz
            have z3 := (b4 (HQBu.out.below hT5)).2.2.2
            have hSs : (v5.setCell ⟨qb, 3, none⟩ (.slice B8 n3 cb8)).cell? ⟨w.heap.size, 0, none⟩ = some (.string nm) ∧ (v5.setCell ⟨qb, 3, none⟩ (.slice B8 n3 cb8)).cell? ⟨w.heap.size, 1, none⟩ = some (.int .i64 s) ∧ (v5.setCell ⟨qb, 3, none⟩ (.slice B8 n3 cb8)).cell? ⟨w.heap.size, 2, none⟩ = some (.slice A gn gc) ∧ (v5.setCell ⟨qb, 3, none⟩ (.slice B8 n3 cb8)).cell? ⟨w.heap.size, 3, none⟩ = some (.slice (some ⟨lb, lo, none⟩) dn (k + 1)) ∧ (v5.setCell ⟨qb, 3, none⟩ (.slice B8 n3 cb8)).cell? ⟨(w.heap.size + 1 + 1), 0, none⟩ = some (.int .i64 z9) ∧ (v5.setCell ⟨qb, 3, none⟩ (.slice B8 n3 cb8)).cell? ⟨(w.heap.size + 1 + 1), 1, none⟩ = some (.int .i64 d9) ∧ (v5.setCell ⟨qb, 3, none⟩ (.slice B8 n3 cb8)).cell? ⟨(w.heap.size + 1 + 1), 2, none⟩ = some (.int .i64 g9) ∧ (v5.setCell ⟨qb, 3, none⟩ (.slice B8 n3 cb8)).cell? ⟨fb, 0, none⟩ = some (.int .i64 q) ∧ (v5.setCell ⟨qb, 3, none⟩ (.slice B8 n3 cb8)).cell? ⟨fb, 1, none⟩ = some (.int .i64 f9) ∧ (v5.setCell ⟨qb, 3, none⟩ (.slice B8 n3 cb8)).cell? ⟨fb, 2, none⟩ = some (.int .i64 g9) := by
              obtain ⟨h0, h1, h2, h3, h4, h5, h6, h7, h8, h9⟩ := hHeld
              exact ⟨(World.cell?_of_block (a := ⟨w.heap.size, 0, none⟩) (Below.heap_setCell _ _ _ w.heap.size (show w.heap.size ≠ qb by omega))).trans h0, (World.cell?_of_block (a := ⟨w.heap.size, 1, none⟩) (Below.heap_setCell _ _ _ w.heap.size (show w.heap.size ≠ qb by omega))).trans h1, (World.cell?_of_block (a := ⟨w.heap.size, 2, none⟩) (Below.heap_setCell _ _ _ w.heap.size (show w.heap.size ≠ qb by omega))).trans h2, (World.cell?_of_block (a := ⟨w.heap.size, 3, none⟩) (Below.heap_setCell _ _ _ w.heap.size (show w.heap.size ≠ qb by omega))).trans h3, (World.cell?_of_block (a := ⟨(w.heap.size + 1 + 1), 0, none⟩) (Below.heap_setCell _ _ _ (w.heap.size + 1 + 1) (show (w.heap.size + 1 + 1) ≠ qb by omega))).trans h4, (World.cell?_of_block (a := ⟨(w.heap.size + 1 + 1), 1, none⟩) (Below.heap_setCell _ _ _ (w.heap.size + 1 + 1) (show (w.heap.size + 1 + 1) ≠ qb by omega))).trans h5, (World.cell?_of_block (a := ⟨(w.heap.size + 1 + 1), 2, none⟩) (Below.heap_setCell _ _ _ (w.heap.size + 1 + 1) (show (w.heap.size + 1 + 1) ≠ qb by omega))).trans h6, (World.cell?_of_block (a := ⟨fb, 0, none⟩) (Below.heap_setCell _ _ _ fb (show fb ≠ qb by omega))).trans h7, (World.cell?_of_block (a := ⟨fb, 1, none⟩) (Below.heap_setCell _ _ _ fb (show fb ≠ qb by omega))).trans h8, (World.cell?_of_block (a := ⟨fb, 2, none⟩) (Below.heap_setCell _ _ _ fb (show fb ≠ qb by omega))).trans h9⟩
            have HSs := Lib.hid hSs
            clear hSs
            go_simp
            go_wp2_with fail
            refine hK.out _ _ HSs.out (fun hHeld => ?_)
            clear hK K HSs qf z3
            try simp only [Act.put, sA, sB, sC]
            refine wpAnyH_done (by kernel_rfl) ?_ _
            have zB : Below w.heap.size w (v5.setCell ⟨qb, 3, none⟩ (.slice B8 n3 cb8)) := (hBu.trans (hT5.mono hBu.size)).setCell (p := ⟨qb, 3, none⟩) (show w.heap.size ≤ qb by omega) (.slice B8 n3 cb8)
            have zR : BlkF (v5.setCell ⟨qb, 3, none⟩ (.slice B8 n3 cb8)) w.heap.size (w.heap.size + 1) [.string { data := #[] }, .int .i64 0, .slice none 0 0, .slice none 0 0] := blkF_cellsEq (HRBu.out.below hT5) (by simp) (Below.heap_setCell _ _ _ _ (show w.heap.size + 1 ≠ qb by omega))
            have zQ : BlkF (v5.setCell ⟨qb, 3, none⟩ (.slice B8 n3 cb8)) w.heap.size qb [.string nm, .int .i64 s, .slice A9 gn ca, (.slice B8 n3 cb8)] := (HQBu.out.below hT5).put (i := 3) (.slice B8 n3 cb8) (by simp)
            have zG : SlRows gaV 2 (v5.setCell ⟨qb, 3, none⟩ (.slice B8 n3 cb8)) A9 G := sl_cellsEq (HGAu.out.below hT5) (by simp) (fun ad had => Below.heap_setCell _ _ _ _ (hqa.out ad had))
            have z3 : SlRows leV 3 (v5.setCell ⟨qb, 3, none⟩ (.slice B8 n3 cb8)) B8 D9 := sl_cellsEq HL8.out (by simp) (fun ad had => Below.heap_setCell _ _ _ _ (by have := HB8.out ad had; have := HQBu.out.lt; show ad.block ≠ qb; omega))
            have ZZ := Lib.hid (And.intro zB (And.intro zR (And.intro zQ (And.intro zG (And.intro z3 (And.intro HB8.out HN8.out))))))
            clear zB zR zQ zG z3 hHeld HS HL8 HB8 HN8
            go_wp2_with fail
            go_meet
            exact ⟨B8, cb8, rfl, Lib.hid ZZ.out.1, Lib.hid ZZ.out.2.1, Lib.hid ZZ.out.2.2.1, Lib.hid ZZ.out.2.2.2.1, Lib.hid ZZ.out.2.2.2.2.1, Lib.hid ZZ.out.2.2.2.2.2.1, Lib.hid ZZ.out.2.2.2.2.2.2⟩
        · skip
          go_simp
          go_wp2_with fail
          refine hK.out _ _ (HS.out _ (hT0.alloc hT0.size _)) (fun hHeld => ?_)
          clear hK K
          try simp only [Act.put, sA, sB, sC]
          have HNbb := Lib.hid (BlkF.made (B := u.heap.size) v0 [.int .i64 q, .int .i64 f9, .int .i64 g9, .int .i64 z9, .int .i64 d9, .int .i64 g9] 79 hT0.size)
          have hbv0 : Below v0.heap.size v0 (v0.alloc (.cells #[.int .i64 q, .int .i64 f9, .int .i64 g9, .int .i64 z9, .int .i64 d9, .int .i64 g9] 79)) := (Below.refl _ _).alloc (Nat.le_refl _) _
          obtain ⟨bb, hbb⟩ : ∃ z, v0.heap.size = z := ⟨_, rfl⟩
          generalize hq0 : v0.alloc (.cells #[.int .i64 q, .int .i64 f9, .int .i64 g9, .int .i64 z9, .int .i64 d9, .int .i64 g9] 79) = v1 at *
          have hT1 : Below u.heap.size u v1 := hT0.trans (hbv0.mono hT0.size)
          rw [hbb] at HNbb ⊢
          clear hbv0 hq0 hbb
          refine wpAnyH_ready (rs := [0]) (by kernel_rfl) (by simp) ?_
          refine AllReadyH.cons rfl (fun K hK => ?_) (AllReadyH.nil)
          go_simp
          go_wp2_with fail
          refine hK.out _ _ (HS.out _ (hT1.alloc hT1.size _)) (fun hHeld => ?_)
          clear hK K
          try simp only [Act.put, sA, sB, sC]
          have HE0 : RowO (v1.alloc (.cells #[] 79)) u.heap.size (.slice (some ⟨v1.heap.size, 0, none⟩) 0 0) 0 [] := ⟨by have := hT1.size; simp; omega, own_emptyG hT1.size (World.alloc_heap_new v1 _)⟩
          have hbv1 : Below v1.heap.size v1 (v1.alloc (.cells #[] 79)) := (Below.refl _ _).alloc (Nat.le_refl _) _
          have hEB : bb ≠ v1.heap.size := by have := HNbb.out.lt; omega
          replace HNbb := Lib.hid (HNbb.out.below hbv1)
          obtain ⟨eb, heb⟩ : ∃ z, v1.heap.size = z := ⟨_, rfl⟩
          have heb2 : eb < (v1.alloc (.cells #[] 79)).heap.size := by simp; omega
          generalize hq1 : v1.alloc (.cells #[] 79) = v2 at *
          have hT2 : Below u.heap.size u v2 := hT1.trans (hbv1.mono hT1.size)
          rw [heb] at HE0 ⊢ hEB
          have HO := Lib.hid HE0
          clear HE0 hbv1 hq1 heb
          refine wpAnyH_ready (rs := [5]) (by kernel_rfl) (by simp) ?_
          refine AllReadyH.cons rfl (fun K hK => ?_) (AllReadyH.nil)
          rw [if_pos (by kernel_rfl)]
          refine oper_append_slG _ _ 38 rfl u.heap.size 79 i0 (.agg #[.int .i64 0, .int .i64 0, .int .i64 0]) 3 24 Try.underlying38 HI.out HZ0.out HZ1.out HZ2.out rfl (by decide) (.slice (some ⟨eb, 0, none⟩) 0 0) 0 [] rfl HO.out.2 (some ⟨lb, lo, none⟩) k (k + 1) (rowsV leV (D.take k)) rfl (fun h => by cases h) (by rw [rowsV_len spLe]; congr 1; rw [List.length_take]; have := hdn.out; omega) (srcG spLe (by decide) ((HDu.out.below hT2).part k)) (rows_one leV_one _) (by unfold maxLen; omega) (by omega) HO.out.1 ?_
          intro r1 v3 hown hgrow hblk
          have hT3 : Below u.heap.size u v3 := hT2.grown hgrow hT2.size (fun r hr => (own_blockG HO.out.2 r hr).1)
          replace HNbb := Lib.hid (blkF_grown HNbb.out hgrow (by simp [Value.ownBlock]; exact hEB))
          have HO1 : Hid (RowO v3 u.heap.size r1 (0 + k) ([] ++ (rowsV leV (D.take k)))) := Lib.hid ⟨hT3.size, hown⟩
          clear hown hgrow hblk HO
          skip
          refine hK.out _ _ (HS.out _ hT3) (fun hHeld => ?_)
          clear hK K
          try simp only [Act.put, sA, sB, sC]
          refine wpAnyH_ready (rs := [9]) (by kernel_rfl) (by simp) ?_
          refine AllReadyH.cons rfl (fun K hK => ?_) (AllReadyH.nil)
          rw [if_pos (by kernel_rfl)]
          refine oper_append_slG _ _ 38 rfl u.heap.size 79 i0 (.agg #[.int .i64 0, .int .i64 0, .int .i64 0]) 3 24 Try.underlying38 HI.out HZ0.out HZ1.out HZ2.out rfl (by decide) r1 (0 + k) ([] ++ (rowsV leV (D.take k))) rfl HO1.out.2 (some ⟨bb, 0, none⟩) 2 2 [.int .i64 q, .int .i64 f9, .int .i64 g9, .int .i64 z9, .int .i64 d9, .int .i64 g9] rfl (fun h => by cases h) rfl (fun ad had j v hj => by cases had; rw [addNR, Nat.zero_add]; exact HNbb.out.at' j v hj) (by intro v hv; simp at hv; rcases hv with rfl | rfl | rfl | rfl | rfl | rfl <;> rfl) (by unfold maxLen; omega) (by omega) HO1.out.1 ?_
          intro r2 v4 hown hgrow hblk
          have hT4 : Below u.heap.size u v4 := hT3.grown hgrow hT3.size (fun r hr => (own_blockG HO1.out.2 r hr).1)
          clear HNbb
          have HO2 : Hid (RowO v4 u.heap.size r2 ((0 + k) + 2) (([] ++ (rowsV leV (D.take k))) ++ [.int .i64 q, .int .i64 f9, .int .i64 g9, .int .i64 z9, .int .i64 d9, .int .i64 g9])) := Lib.hid ⟨hT4.size, hown⟩
          clear hown hgrow hblk HO1
          skip
          refine hK.out _ _ (HS.out _ hT4) (fun hHeld => ?_)
          clear hK K
          try simp only [Act.put, sA, sB, sC]
          refine wpAnyH_ready (rs := [15]) (by kernel_rfl) (by simp) ?_
          refine AllReadyH.cons rfl (fun K hK => ?_) (AllReadyH.nil)
          rw [if_pos (by kernel_rfl)]
          refine oper_append_slS _ _ 38 rfl u.heap.size 79 i0 (.agg #[.int .i64 0, .int .i64 0, .int .i64 0]) 3 24 Try.underlying38 HI.out HZ0.out HZ1.out HZ2.out rfl (by decide) r2 (0 + k + 2) ([] ++ (rowsV leV (D.take k)) ++ [.int .i64 q, .int .i64 f9, .int .i64 g9, .int .i64 z9, .int .i64 d9, .int .i64 g9]) rfl HO2.out.2 (some ⟨lb, lo, none⟩) (dn - (k + 1)) 0 (rowsV leV (D.drop (k + 1))) rfl (fun h => by cases h) (by rw [rowsV_len spLe]; congr 1; rw [List.length_drop]; have := hdn.out; omega) (srcG spLe (by decide) (HS3.out _ hT4)) (rows_one leV_one _) (by unfold maxLen; omega) (by omega) HO2.out.1 n3 hn3.out ?_
          intro B8 cb8 v5 hown hgrow hblk
          have hT5 : Below u.heap.size u v5 := hT4.grown hgrow hT4.size (fun r hr => (own_blockG HO2.out.2 r hr).1)
          have HO3 : Hid (RowO v5 u.heap.size (.slice B8 n3 cb8) n3 ([] ++ (rowsV leV (D.take k)) ++ [.int .i64 q, .int .i64 f9, .int .i64 g9, .int .i64 z9, .int .i64 d9, .int .i64 g9] ++ (rowsV leV (D.drop (k + 1))))) := Lib.hid ⟨hT5.size, hown⟩
          clear hown hgrow hblk HO2
          refine hK.out _ _ (HS.out _ hT5) (fun hHeld => ?_)
          clear hK K
          try simp only [Act.put, sA, sB, sC]
          refine tkH 16 ⟨some 82, _, _, _, _, _⟩ ?_ rfl ?_ (by assumption) ?_
          rotate_left
          · (intro w hSw; (try dsimp only at hSw); go_simp; all_goals with_reducible rfl)
          try simp only [Act.put, sA, sB, sC]
          refine wpAnyH_ready (rs := [17]) (by kernel_rfl) (by simp) ?_
          refine AllReadyH.cons rfl (fun K hK => ?_) (AllReadyH.nil)
          have hend8 := rowO_sl HO3.out hDl.out hDr.out
          have hs8 := hend8.1
          have hb8 := hend8.2.1
          have hn8 := hend8.2.2
          clear HO3 hend8
          have HL8 := Lib.hid hs8
          have HB8 := Lib.hid hb8
          have HN8 := Lib.hid hn8
          clear hs8 hb8 hn8
          have qf := (HQBu.out.below hT5).fz
          have z3 := (b4 (HQBu.out.below hT5)).2.2.2
          have hSs : (v5.setCell ⟨qb, 3, none⟩ (.slice B8 n3 cb8)).cell? ⟨w.heap.size, 0, none⟩ = some (.string nm) ∧ (v5.setCell ⟨qb, 3, none⟩ (.slice B8 n3 cb8)).cell? ⟨w.heap.size, 1, none⟩ = some (.int .i64 s) ∧ (v5.setCell ⟨qb, 3, none⟩ (.slice B8 n3 cb8)).cell? ⟨w.heap.size, 2, none⟩ = some (.slice A gn gc) ∧ (v5.setCell ⟨qb, 3, none⟩ (.slice B8 n3 cb8)).cell? ⟨w.heap.size, 3, none⟩ = some (.slice (some ⟨lb, lo, none⟩) dn (k + 1)) ∧ (v5.setCell ⟨qb, 3, none⟩ (.slice B8 n3 cb8)).cell? ⟨(w.heap.size + 1 + 1), 0, none⟩ = some (.int .i64 z9) ∧ (v5.setCell ⟨qb, 3, none⟩ (.slice B8 n3 cb8)).cell? ⟨(w.heap.size + 1 + 1), 1, none⟩ = some (.int .i64 d9) ∧ (v5.setCell ⟨qb, 3, none⟩ (.slice B8 n3 cb8)).cell? ⟨(w.heap.size + 1 + 1), 2, none⟩ = some (.int .i64 g9) ∧ (v5.setCell ⟨qb, 3, none⟩ (.slice B8 n3 cb8)).cell? ⟨fb, 0, none⟩ = some (.int .i64 q) ∧ (v5.setCell ⟨qb, 3, none⟩ (.slice B8 n3 cb8)).cell? ⟨fb, 1, none⟩ = some (.int .i64 f9) ∧ (v5.setCell ⟨qb, 3, none⟩ (.slice B8 n3 cb8)).cell? ⟨fb, 2, none⟩ = some (.int .i64 g9) := by
            obtain ⟨h0, h1, h2, h3, h4, h5, h6, h7, h8, h9⟩ := hHeld
            exact ⟨(World.cell?_of_block (a := ⟨w.heap.size, 0, none⟩) (Below.heap_setCell _ _ _ w.heap.size (show w.heap.size ≠ qb by omega))).trans h0, (World.cell?_of_block (a := ⟨w.heap.size, 1, none⟩) (Below.heap_setCell _ _ _ w.heap.size (show w.heap.size ≠ qb by omega))).trans h1, (World.cell?_of_block (a := ⟨w.heap.size, 2, none⟩) (Below.heap_setCell _ _ _ w.heap.size (show w.heap.size ≠ qb by omega))).trans h2, (World.cell?_of_block (a := ⟨w.heap.size, 3, none⟩) (Below.heap_setCell _ _ _ w.heap.size (show w.heap.size ≠ qb by omega))).trans h3, (World.cell?_of_block (a := ⟨(w.heap.size + 1 + 1), 0, none⟩) (Below.heap_setCell _ _ _ (w.heap.size + 1 + 1) (show (w.heap.size + 1 + 1) ≠ qb by omega))).trans h4, (World.cell?_of_block (a := ⟨(w.heap.size + 1 + 1), 1, none⟩) (Below.heap_setCell _ _ _ (w.heap.size + 1 + 1) (show (w.heap.size + 1 + 1) ≠ qb by omega))).trans h5, (World.cell?_of_block (a := ⟨(w.heap.size + 1 + 1), 2, none⟩) (Below.heap_setCell _ _ _ (w.heap.size + 1 + 1) (show (w.heap.size + 1 + 1) ≠ qb by omega))).trans h6, (World.cell?_of_block (a := ⟨fb, 0, none⟩) (Below.heap_setCell _ _ _ fb (show fb ≠ qb by omega))).trans h7, (World.cell?_of_block (a := ⟨fb, 1, none⟩) (Below.heap_setCell _ _ _ fb (show fb ≠ qb by omega))).trans h8, (World.cell?_of_block (a := ⟨fb, 2, none⟩) (Below.heap_setCell _ _ _ fb (show fb ≠ qb by omega))).trans h9⟩
          have HSs := Lib.hid hSs
          clear hSs
          go_simp
          go_wp2_with fail
          refine hK.out _ _ HSs.out (fun hHeld => ?_)
          clear hK K HSs qf z3
          try simp only [Act.put, sA, sB, sC]
          refine wpAnyH_done (by kernel_rfl) ?_ _
          have zB : Below w.heap.size w (v5.setCell ⟨qb, 3, none⟩ (.slice B8 n3 cb8)) := (hBu.trans (hT5.mono hBu.size)).setCell (p := ⟨qb, 3, none⟩) (show w.heap.size ≤ qb by omega) (.slice B8 n3 cb8)
          have zR : BlkF (v5.setCell ⟨qb, 3, none⟩ (.slice B8 n3 cb8)) w.heap.size (w.heap.size + 1) [.string { data := #[] }, .int .i64 0, .slice none 0 0, .slice none 0 0] := blkF_cellsEq (HRBu.out.below hT5) (by simp) (Below.heap_setCell _ _ _ _ (show w.heap.size + 1 ≠ qb by omega))
          have zQ : BlkF (v5.setCell ⟨qb, 3, none⟩ (.slice B8 n3 cb8)) w.heap.size qb [.string nm, .int .i64 s, .slice A9 gn ca, (.slice B8 n3 cb8)] := (HQBu.out.below hT5).put (i := 3) (.slice B8 n3 cb8) (by simp)
          have zG : SlRows gaV 2 (v5.setCell ⟨qb, 3, none⟩ (.slice B8 n3 cb8)) A9 G := sl_cellsEq (HGAu.out.below hT5) (by simp) (fun ad had => Below.heap_setCell _ _ _ _ (hqa.out ad had))
          have z3 : SlRows leV 3 (v5.setCell ⟨qb, 3, none⟩ (.slice B8 n3 cb8)) B8 D9 := sl_cellsEq HL8.out (by simp) (fun ad had => Below.heap_setCell _ _ _ _ (by have := HB8.out ad had; have := HQBu.out.lt; show ad.block ≠ qb; omega))
          have ZZ := Lib.hid (And.intro zB (And.intro zR (And.intro zQ (And.intro zG (And.intro z3 (And.intro HB8.out HN8.out))))))
          clear zB zR zQ zG z3 hHeld HS HL8 HB8 HN8
          go_wp2_with fail
          go_meet
          exact ⟨B8, cb8, rfl, Lib.hid ZZ.out.1, Lib.hid ZZ.out.2.1, Lib.hid ZZ.out.2.2.1, Lib.hid ZZ.out.2.2.2.1, Lib.hid ZZ.out.2.2.2.2.1, Lib.hid ZZ.out.2.2.2.2.2.1, Lib.hid ZZ.out.2.2.2.2.2.2⟩
      · have hcapH := Lib.hid hcap
        have hcq : ¬ dc - (k + 1) = 0 := by have := hdc.out; omega
        have HS3 : Hid (∀ y, Below u.heap.size u y → SlRows leV 3 y (some ⟨lb, lo + (k + 1) * 3, none⟩) (D.drop (k + 1))) := Lib.hid fun y hy => sl_drop rfl (HDu.out.below hy) (k + 1)
        refine wp_region_held_drew (S := (fun w' => w'.cell? ⟨w.heap.size, 0, none⟩ = some (.string nm) ∧ w'.cell? ⟨w.heap.size, 1, none⟩ = some (.int .i64 s) ∧ w'.cell? ⟨w.heap.size, 2, none⟩ = some (.slice A gn gc) ∧ w'.cell? ⟨w.heap.size, 3, none⟩ = some (.slice (some ⟨lb, lo, none⟩) dn dc) ∧ w'.cell? ⟨(w.heap.size + 1 + 1), 0, none⟩ = some (.int .i64 z9) ∧ w'.cell? ⟨(w.heap.size + 1 + 1), 1, none⟩ = some (.int .i64 d9) ∧ w'.cell? ⟨(w.heap.size + 1 + 1), 2, none⟩ = some (.int .i64 g9) ∧ w'.cell? ⟨fb, 0, none⟩ = some (.int .i64 q) ∧ w'.cell? ⟨fb, 1, none⟩ = some (.int .i64 f9) ∧ w'.cell? ⟨fb, 2, none⟩ = some (.int .i64 g9))) (by kernel_rfl) (HS.out _ (Below.refl _ _).drew) (fun hHeld => ?_)
        have hT0 : Below u.heap.size u u.drew := (Below.refl _ _).drew
        generalize hdr : u.drew = v0 at *
        clear hdr
        refine tkH 1 ⟨some 67, _, _, _, _, _⟩ ?_ rfl ?_ (by assumption) ?_
        rotate_left
        · (intro w hSw; (try dsimp only at hSw); go_simp; all_goals with_reducible rfl)
        try simp only [Act.put, sA, sB, sC]
        refine tkH 2 ⟨some 68, _, _, _, _, _⟩ ?_ rfl ?_ (by assumption) ?_
        rotate_left
        · (intro w hSw; (try dsimp only at hSw); go_simp; all_goals with_reducible rfl)
        try simp only [Act.put, sA, sB, sC]
        refine tkH 3 ⟨some 69, _, _, _, _, _⟩ ?_ rfl ?_ (by assumption) ?_
        rotate_left
        · (intro w hSw; (try dsimp only at hSw); go_simp; all_goals with_reducible rfl)
        try simp only [Act.put, sA, sB, sC]
        refine tkH 4 ⟨some 70, _, _, _, _, _⟩ ?_ rfl ?_ (by assumption) ?_
        rotate_left
        · (intro w hSw; (try dsimp only at hSw); go_simp; all_goals with_reducible rfl)
        try simp only [Act.put, sA, sB, sC]
        refine tkH 6 ⟨some 72, _, _, _, _, _⟩ ?_ rfl ?_ (by assumption) ?_
        rotate_left
        · (intro w hSw; (try dsimp only at hSw); go_simp; all_goals with_reducible rfl)
        try simp only [Act.put, sA, sB, sC]
        refine tkH 7 ⟨some 73, _, _, _, _, _⟩ ?_ rfl ?_ (by assumption) ?_
        rotate_left
        · (intro w hSw; (try dsimp only at hSw); go_simp; all_goals with_reducible rfl)
        try simp only [Act.put, sA, sB, sC]
        refine tkH 10 ⟨some 76, _, _, _, _, _⟩ ?_ rfl ?_ (by assumption) ?_
        rotate_left
        · (intro w hSw; (try dsimp only at hSw); go_simp; all_goals with_reducible rfl)
        try simp only [Act.put, sA, sB, sC]
        refine tkH 11 ⟨some 77, _, _, _, _, _⟩ ?_ rfl ?_ (by assumption) ?_
        rotate_left
        · (intro w hSw; (try dsimp only at hSw); go_simp; all_goals with_reducible rfl)
        try simp only [Act.put, sA, sB, sC]
        refine tkH 12 ⟨some 78, _, _, _, _, _⟩ ?_ rfl ?_ (by assumption) ?_
        rotate_left
        · (intro w hSw; (try dsimp only at hSw); go_simp; all_goals with_reducible rfl)
        try simp only [Act.put, sA, sB, sC]
        refine tkH 13 ⟨some 79, _, _, _, _, _⟩ ?_ rfl ?_ (by assumption) ?_
        rotate_left
        · (intro w hSw; (try dsimp only at hSw); go_simp; all_goals with_reducible rfl)
        try simp only [Act.put, sA, sB, sC]
        refine tkH 14 ⟨some 80, _, _, _, _, _⟩ ?_ rfl ?_ (by assumption) ?_
        rotate_left
        · (intro w hSw; (try dsimp only at hSw); go_simp; all_goals with_reducible rfl)
        try simp only [Act.put, sA, sB, sC]
        refine wpAnyH_ready (rs := [0, 8]) (by kernel_rfl) (by simp) ?_
        refine AllReadyH.cons rfl (fun K hK => ?_) (AllReadyH.cons rfl (fun K hK => ?_) (AllReadyH.nil))
        · skip
          go_simp
          go_wp2_with fail
          refine hK.out _ _ (HS.out _ (hT0.alloc hT0.size _)) (fun hHeld => ?_)
          clear hK K
          try simp only [Act.put, sA, sB, sC]
          have HE0 : RowO (v0.alloc (.cells #[] 79)) u.heap.size (.slice (some ⟨v0.heap.size, 0, none⟩) 0 0) 0 [] := ⟨by have := hT0.size; simp; omega, own_emptyG hT0.size (World.alloc_heap_new v0 _)⟩
          have hbv0 : Below v0.heap.size v0 (v0.alloc (.cells #[] 79)) := (Below.refl _ _).alloc (Nat.le_refl _) _
          obtain ⟨eb, heb⟩ : ∃ z, v0.heap.size = z := ⟨_, rfl⟩
          have heb2 : eb < (v0.alloc (.cells #[] 79)).heap.size := by simp; omega
          generalize hq0 : v0.alloc (.cells #[] 79) = v1 at *
          have hT1 : Below u.heap.size u v1 := hT0.trans (hbv0.mono hT0.size)
          rw [heb] at HE0 ⊢
          have HO := Lib.hid HE0
          clear HE0 hbv0 hq0 heb
          refine wpAnyH_ready (rs := [5, 8]) (by kernel_rfl) (by simp) ?_
          refine AllReadyH.cons rfl (fun K hK => ?_) (AllReadyH.cons rfl (fun K hK => ?_) (AllReadyH.nil))
          · skip
            rw [if_pos (by kernel_rfl)]
            refine oper_append_slG _ _ 38 rfl u.heap.size 79 i0 (.agg #[.int .i64 0, .int .i64 0, .int .i64 0]) 3 24 Try.underlying38 HI.out HZ0.out HZ1.out HZ2.out rfl (by decide) (.slice (some ⟨eb, 0, none⟩) 0 0) 0 [] rfl HO.out.2 (some ⟨lb, lo, none⟩) k dc (rowsV leV (D.take k)) rfl (fun h => by cases h) (by rw [rowsV_len spLe]; congr 1; rw [List.length_take]; have := hdn.out; omega) (srcG spLe (by decide) ((HDu.out.below hT1).part k)) (rows_one leV_one _) (by unfold maxLen; omega) (by omega) HO.out.1 ?_
            intro r1 v2 hown hgrow hblk
            have hT2 : Below u.heap.size u v2 := hT1.grown hgrow hT1.size (fun r hr => (own_blockG HO.out.2 r hr).1)
            have HO1 : Hid (RowO v2 u.heap.size r1 (0 + k) ([] ++ (rowsV leV (D.take k)))) := Lib.hid ⟨hT2.size, hown⟩
            clear hown hgrow hblk HO
            skip
            refine hK.out _ _ (HS.out _ hT2) (fun hHeld => ?_)
            clear hK K
            try simp only [Act.put, sA, sB, sC]
            refine wpAnyH_ready (rs := [8]) (by kernel_rfl) (by simp) ?_
            refine AllReadyH.cons rfl (fun K hK => ?_) (AllReadyH.nil)
            go_simp
            go_wp2_with fail
            refine hK.out _ _ (HS.out _ (hT2.alloc hT2.size _)) (fun hHeld => ?_)
            clear hK K
            try simp only [Act.put, sA, sB, sC]
            have HNbb := Lib.hid (BlkF.made (B := u.heap.size) v2 [.int .i64 q, .int .i64 f9, .int .i64 g9, .int .i64 z9, .int .i64 d9, .int .i64 g9] 79 hT2.size)
            have hbv2 : Below v2.heap.size v2 (v2.alloc (.cells #[.int .i64 q, .int .i64 f9, .int .i64 g9, .int .i64 z9, .int .i64 d9, .int .i64 g9] 79)) := (Below.refl _ _).alloc (Nat.le_refl _) _
            replace HO1 := Lib.hid (HO1.out.below hbv2)
            obtain ⟨bb, hbb⟩ : ∃ z, v2.heap.size = z := ⟨_, rfl⟩
            generalize hq2 : v2.alloc (.cells #[.int .i64 q, .int .i64 f9, .int .i64 g9, .int .i64 z9, .int .i64 d9, .int .i64 g9] 79) = v3 at *
            have hT3 : Below u.heap.size u v3 := hT2.trans (hbv2.mono hT2.size)
            rw [hbb] at HNbb ⊢
            clear hbv2 hq2 hbb
            refine wpAnyH_ready (rs := [9]) (by kernel_rfl) (by simp) ?_
            refine AllReadyH.cons rfl (fun K hK => ?_) (AllReadyH.nil)
            rw [if_pos (by kernel_rfl)]
            refine oper_append_slG _ _ 38 rfl u.heap.size 79 i0 (.agg #[.int .i64 0, .int .i64 0, .int .i64 0]) 3 24 Try.underlying38 HI.out HZ0.out HZ1.out HZ2.out rfl (by decide) r1 (0 + k) ([] ++ (rowsV leV (D.take k))) rfl HO1.out.2 (some ⟨bb, 0, none⟩) 2 2 [.int .i64 q, .int .i64 f9, .int .i64 g9, .int .i64 z9, .int .i64 d9, .int .i64 g9] rfl (fun h => by cases h) rfl (fun ad had j v hj => by cases had; rw [addNR, Nat.zero_add]; exact HNbb.out.at' j v hj) (by intro v hv; simp at hv; rcases hv with rfl | rfl | rfl | rfl | rfl | rfl <;> rfl) (by unfold maxLen; omega) (by omega) HO1.out.1 ?_
            intro r2 v4 hown hgrow hblk
            have hT4 : Below u.heap.size u v4 := hT3.grown hgrow hT3.size (fun r hr => (own_blockG HO1.out.2 r hr).1)
            clear HNbb
            have HO2 : Hid (RowO v4 u.heap.size r2 ((0 + k) + 2) (([] ++ (rowsV leV (D.take k))) ++ [.int .i64 q, .int .i64 f9, .int .i64 g9, .int .i64 z9, .int .i64 d9, .int .i64 g9])) := Lib.hid ⟨hT4.size, hown⟩
            clear hown hgrow hblk HO1
            skip
            refine hK.out _ _ (HS.out _ hT4) (fun hHeld => ?_)
            clear hK K
            try simp only [Act.put, sA, sB, sC]
            refine wpAnyH_ready (rs := [15]) (by kernel_rfl) (by simp) ?_
            refine AllReadyH.cons rfl (fun K hK => ?_) (AllReadyH.nil)
            rw [if_pos (by kernel_rfl)]
            refine oper_append_slS _ _ 38 rfl u.heap.size 79 i0 (.agg #[.int .i64 0, .int .i64 0, .int .i64 0]) 3 24 Try.underlying38 HI.out HZ0.out HZ1.out HZ2.out rfl (by decide) r2 (0 + k + 2) ([] ++ (rowsV leV (D.take k)) ++ [.int .i64 q, .int .i64 f9, .int .i64 g9, .int .i64 z9, .int .i64 d9, .int .i64 g9]) rfl HO2.out.2 (some ⟨lb, lo + (k + 1) * 3, none⟩) (dn - (k + 1)) (dc - (k + 1)) (rowsV leV (D.drop (k + 1))) rfl (fun h => by cases h) (by rw [rowsV_len spLe]; congr 1; rw [List.length_drop]; have := hdn.out; omega) (srcG spLe (by decide) (HS3.out _ hT4)) (rows_one leV_one _) (by unfold maxLen; omega) (by omega) HO2.out.1 n3 hn3.out ?_
            intro B8 cb8 v5 hown hgrow hblk
            have hT5 : Below u.heap.size u v5 := hT4.grown hgrow hT4.size (fun r hr => (own_blockG HO2.out.2 r hr).1)
            have HO3 : Hid (RowO v5 u.heap.size (.slice B8 n3 cb8) n3 ([] ++ (rowsV leV (D.take k)) ++ [.int .i64 q, .int .i64 f9, .int .i64 g9, .int .i64 z9, .int .i64 d9, .int .i64 g9] ++ (rowsV leV (D.drop (k + 1))))) := Lib.hid ⟨hT5.size, hown⟩
            clear hown hgrow hblk HO2
            refine hK.out _ _ (HS.out _ hT5) (fun hHeld => ?_)
            clear hK K
            try simp only [Act.put, sA, sB, sC]
            refine tkH 16 ⟨some 82, _, _, _, _, _⟩ ?_ rfl ?_ (by assumption) ?_
            rotate_left
            · (intro w hSw; (try dsimp only at hSw); go_simp; all_goals with_reducible rfl)
            try simp only [Act.put, sA, sB, sC]
            refine wpAnyH_ready (rs := [17]) (by kernel_rfl) (by simp) ?_
            refine AllReadyH.cons rfl (fun K hK => ?_) (AllReadyH.nil)
            have hend8 := rowO_sl HO3.out hDl.out hDr.out
            have hs8 := hend8.1
            have hb8 := hend8.2.1
            have hn8 := hend8.2.2
            clear HO3 hend8
            have HL8 := Lib.hid hs8
            have HB8 := Lib.hid hb8
            have HN8 := Lib.hid hn8
            clear hs8 hb8 hn8
            have qf := (HQBu.out.below hT5).fz
            have z3 := (b4 (HQBu.out.below hT5)).2.2.2
            have hSs : (v5.setCell ⟨qb, 3, none⟩ (.slice B8 n3 cb8)).cell? ⟨w.heap.size, 0, none⟩ = some (.string nm) ∧ (v5.setCell ⟨qb, 3, none⟩ (.slice B8 n3 cb8)).cell? ⟨w.heap.size, 1, none⟩ = some (.int .i64 s) ∧ (v5.setCell ⟨qb, 3, none⟩ (.slice B8 n3 cb8)).cell? ⟨w.heap.size, 2, none⟩ = some (.slice A gn gc) ∧ (v5.setCell ⟨qb, 3, none⟩ (.slice B8 n3 cb8)).cell? ⟨w.heap.size, 3, none⟩ = some (.slice (some ⟨lb, lo, none⟩) dn dc) ∧ (v5.setCell ⟨qb, 3, none⟩ (.slice B8 n3 cb8)).cell? ⟨(w.heap.size + 1 + 1), 0, none⟩ = some (.int .i64 z9) ∧ (v5.setCell ⟨qb, 3, none⟩ (.slice B8 n3 cb8)).cell? ⟨(w.heap.size + 1 + 1), 1, none⟩ = some (.int .i64 d9) ∧ (v5.setCell ⟨qb, 3, none⟩ (.slice B8 n3 cb8)).cell? ⟨(w.heap.size + 1 + 1), 2, none⟩ = some (.int .i64 g9) ∧ (v5.setCell ⟨qb, 3, none⟩ (.slice B8 n3 cb8)).cell? ⟨fb, 0, none⟩ = some (.int .i64 q) ∧ (v5.setCell ⟨qb, 3, none⟩ (.slice B8 n3 cb8)).cell? ⟨fb, 1, none⟩ = some (.int .i64 f9) ∧ (v5.setCell ⟨qb, 3, none⟩ (.slice B8 n3 cb8)).cell? ⟨fb, 2, none⟩ = some (.int .i64 g9) := by
              obtain ⟨h0, h1, h2, h3, h4, h5, h6, h7, h8, h9⟩ := hHeld
              exact ⟨(World.cell?_of_block (a := ⟨w.heap.size, 0, none⟩) (Below.heap_setCell _ _ _ w.heap.size (show w.heap.size ≠ qb by omega))).trans h0, (World.cell?_of_block (a := ⟨w.heap.size, 1, none⟩) (Below.heap_setCell _ _ _ w.heap.size (show w.heap.size ≠ qb by omega))).trans h1, (World.cell?_of_block (a := ⟨w.heap.size, 2, none⟩) (Below.heap_setCell _ _ _ w.heap.size (show w.heap.size ≠ qb by omega))).trans h2, (World.cell?_of_block (a := ⟨w.heap.size, 3, none⟩) (Below.heap_setCell _ _ _ w.heap.size (show w.heap.size ≠ qb by omega))).trans h3, (World.cell?_of_block (a := ⟨(w.heap.size + 1 + 1), 0, none⟩) (Below.heap_setCell _ _ _ (w.heap.size + 1 + 1) (show (w.heap.size + 1 + 1) ≠ qb by omega))).trans h4, (World.cell?_of_block (a := ⟨(w.heap.size + 1 + 1), 1, none⟩) (Below.heap_setCell _ _ _ (w.heap.size + 1 + 1) (show (w.heap.size + 1 + 1) ≠ qb by omega))).trans h5, (World.cell?_of_block (a := ⟨(w.heap.size + 1 + 1), 2, none⟩) (Below.heap_setCell _ _ _ (w.heap.size + 1 + 1) (show (w.heap.size + 1 + 1) ≠ qb by omega))).trans h6, (World.cell?_of_block (a := ⟨fb, 0, none⟩) (Below.heap_setCell _ _ _ fb (show fb ≠ qb by omega))).trans h7, (World.cell?_of_block (a := ⟨fb, 1, none⟩) (Below.heap_setCell _ _ _ fb (show fb ≠ qb by omega))).trans h8, (World.cell?_of_block (a := ⟨fb, 2, none⟩) (Below.heap_setCell _ _ _ fb (show fb ≠ qb by omega))).trans h9⟩
            have HSs := Lib.hid hSs
            clear hSs
            go_simp
            go_wp2_with fail
            refine hK.out _ _ HSs.out (fun hHeld => ?_)
            clear hK K HSs qf z3
            try simp only [Act.put, sA, sB, sC]
            refine wpAnyH_done (by kernel_rfl) ?_ _
            have zB : Below w.heap.size w (v5.setCell ⟨qb, 3, none⟩ (.slice B8 n3 cb8)) := (hBu.trans (hT5.mono hBu.size)).setCell (p := ⟨qb, 3, none⟩) (show w.heap.size ≤ qb by omega) (.slice B8 n3 cb8)
            have zR : BlkF (v5.setCell ⟨qb, 3, none⟩ (.slice B8 n3 cb8)) w.heap.size (w.heap.size + 1) [.string { data := #[] }, .int .i64 0, .slice none 0 0, .slice none 0 0] := blkF_cellsEq (HRBu.out.below hT5) (by simp) (Below.heap_setCell _ _ _ _ (show w.heap.size + 1 ≠ qb by omega))
            have zQ : BlkF (v5.setCell ⟨qb, 3, none⟩ (.slice B8 n3 cb8)) w.heap.size qb [.string nm, .int .i64 s, .slice A9 gn ca, (.slice B8 n3 cb8)] := (HQBu.out.below hT5).put (i := 3) (.slice B8 n3 cb8) (by simp)
            have zG : SlRows gaV 2 (v5.setCell ⟨qb, 3, none⟩ (.slice B8 n3 cb8)) A9 G := sl_cellsEq (HGAu.out.below hT5) (by simp) (fun ad had => Below.heap_setCell _ _ _ _ (hqa.out ad had))
            have z3 : SlRows leV 3 (v5.setCell ⟨qb, 3, none⟩ (.slice B8 n3 cb8)) B8 D9 := sl_cellsEq HL8.out (by simp) (fun ad had => Below.heap_setCell _ _ _ _ (by have := HB8.out ad had; have := HQBu.out.lt; show ad.block ≠ qb; omega))
            have ZZ := Lib.hid (And.intro zB (And.intro zR (And.intro zQ (And.intro zG (And.intro z3 (And.intro HB8.out HN8.out))))))
            clear zB zR zQ zG z3 hHeld HS HL8 HB8 HN8
            go_wp2_with fail
            go_meet
            exact ⟨B8, cb8, rfl, Lib.hid ZZ.out.1, Lib.hid ZZ.out.2.1, Lib.hid ZZ.out.2.2.1, Lib.hid ZZ.out.2.2.2.1, Lib.hid ZZ.out.2.2.2.2.1, Lib.hid ZZ.out.2.2.2.2.2.1, Lib.hid ZZ.out.2.2.2.2.2.2⟩
          · skip
            go_simp
            go_wp2_with fail
            refine hK.out _ _ (HS.out _ (hT1.alloc hT1.size _)) (fun hHeld => ?_)
            clear hK K
            try simp only [Act.put, sA, sB, sC]
            have HNbb := Lib.hid (BlkF.made (B := u.heap.size) v1 [.int .i64 q, .int .i64 f9, .int .i64 g9, .int .i64 z9, .int .i64 d9, .int .i64 g9] 79 hT1.size)
            have hbv1 : Below v1.heap.size v1 (v1.alloc (.cells #[.int .i64 q, .int .i64 f9, .int .i64 g9, .int .i64 z9, .int .i64 d9, .int .i64 g9] 79)) := (Below.refl _ _).alloc (Nat.le_refl _) _
            have hEB : v1.heap.size ≠ eb := by omega
            replace HO := Lib.hid (HO.out.below hbv1)
            obtain ⟨bb, hbb⟩ : ∃ z, v1.heap.size = z := ⟨_, rfl⟩
            generalize hq1 : v1.alloc (.cells #[.int .i64 q, .int .i64 f9, .int .i64 g9, .int .i64 z9, .int .i64 d9, .int .i64 g9] 79) = v2 at *
            have hT2 : Below u.heap.size u v2 := hT1.trans (hbv1.mono hT1.size)
            rw [hbb] at HNbb ⊢ hEB
            clear hbv1 hq1 hbb
            refine wpAnyH_ready (rs := [5]) (by kernel_rfl) (by simp) ?_
            refine AllReadyH.cons rfl (fun K hK => ?_) (AllReadyH.nil)
            rw [if_pos (by kernel_rfl)]
            refine oper_append_slG _ _ 38 rfl u.heap.size 79 i0 (.agg #[.int .i64 0, .int .i64 0, .int .i64 0]) 3 24 Try.underlying38 HI.out HZ0.out HZ1.out HZ2.out rfl (by decide) (.slice (some ⟨eb, 0, none⟩) 0 0) 0 [] rfl HO.out.2 (some ⟨lb, lo, none⟩) k dc (rowsV leV (D.take k)) rfl (fun h => by cases h) (by rw [rowsV_len spLe]; congr 1; rw [List.length_take]; have := hdn.out; omega) (srcG spLe (by decide) ((HDu.out.below hT2).part k)) (rows_one leV_one _) (by unfold maxLen; omega) (by omega) HO.out.1 ?_
            intro r1 v3 hown hgrow hblk
            have hT3 : Below u.heap.size u v3 := hT2.grown hgrow hT2.size (fun r hr => (own_blockG HO.out.2 r hr).1)
            replace HNbb := Lib.hid (blkF_grown HNbb.out hgrow (by simp [Value.ownBlock]; exact hEB))
            have HO1 : Hid (RowO v3 u.heap.size r1 (0 + k) ([] ++ (rowsV leV (D.take k)))) := Lib.hid ⟨hT3.size, hown⟩
            clear hown hgrow hblk HO
            skip
            refine hK.out _ _ (HS.out _ hT3) (fun hHeld => ?_)
            clear hK K
            try simp only [Act.put, sA, sB, sC]
            refine wpAnyH_ready (rs := [9]) (by kernel_rfl) (by simp) ?_
            refine AllReadyH.cons rfl (fun K hK => ?_) (AllReadyH.nil)
            rw [if_pos (by kernel_rfl)]
            refine oper_append_slG _ _ 38 rfl u.heap.size 79 i0 (.agg #[.int .i64 0, .int .i64 0, .int .i64 0]) 3 24 Try.underlying38 HI.out HZ0.out HZ1.out HZ2.out rfl (by decide) r1 (0 + k) ([] ++ (rowsV leV (D.take k))) rfl HO1.out.2 (some ⟨bb, 0, none⟩) 2 2 [.int .i64 q, .int .i64 f9, .int .i64 g9, .int .i64 z9, .int .i64 d9, .int .i64 g9] rfl (fun h => by cases h) rfl (fun ad had j v hj => by cases had; rw [addNR, Nat.zero_add]; exact HNbb.out.at' j v hj) (by intro v hv; simp at hv; rcases hv with rfl | rfl | rfl | rfl | rfl | rfl <;> rfl) (by unfold maxLen; omega) (by omega) HO1.out.1 ?_
            intro r2 v4 hown hgrow hblk
            have hT4 : Below u.heap.size u v4 := hT3.grown hgrow hT3.size (fun r hr => (own_blockG HO1.out.2 r hr).1)
            clear HNbb
            have HO2 : Hid (RowO v4 u.heap.size r2 ((0 + k) + 2) (([] ++ (rowsV leV (D.take k))) ++ [.int .i64 q, .int .i64 f9, .int .i64 g9, .int .i64 z9, .int .i64 d9, .int .i64 g9])) := Lib.hid ⟨hT4.size, hown⟩
            clear hown hgrow hblk HO1
            skip
            refine hK.out _ _ (HS.out _ hT4) (fun hHeld => ?_)
            clear hK K
            try simp only [Act.put, sA, sB, sC]
            refine wpAnyH_ready (rs := [15]) (by kernel_rfl) (by simp) ?_
            refine AllReadyH.cons rfl (fun K hK => ?_) (AllReadyH.nil)
            rw [if_pos (by kernel_rfl)]
            refine oper_append_slS _ _ 38 rfl u.heap.size 79 i0 (.agg #[.int .i64 0, .int .i64 0, .int .i64 0]) 3 24 Try.underlying38 HI.out HZ0.out HZ1.out HZ2.out rfl (by decide) r2 (0 + k + 2) ([] ++ (rowsV leV (D.take k)) ++ [.int .i64 q, .int .i64 f9, .int .i64 g9, .int .i64 z9, .int .i64 d9, .int .i64 g9]) rfl HO2.out.2 (some ⟨lb, lo + (k + 1) * 3, none⟩) (dn - (k + 1)) (dc - (k + 1)) (rowsV leV (D.drop (k + 1))) rfl (fun h => by cases h) (by rw [rowsV_len spLe]; congr 1; rw [List.length_drop]; have := hdn.out; omega) (srcG spLe (by decide) (HS3.out _ hT4)) (rows_one leV_one _) (by unfold maxLen; omega) (by omega) HO2.out.1 n3 hn3.out ?_
            intro B8 cb8 v5 hown hgrow hblk
            have hT5 : Below u.heap.size u v5 := hT4.grown hgrow hT4.size (fun r hr => (own_blockG HO2.out.2 r hr).1)
            have HO3 : Hid (RowO v5 u.heap.size (.slice B8 n3 cb8) n3 ([] ++ (rowsV leV (D.take k)) ++ [.int .i64 q, .int .i64 f9, .int .i64 g9, .int .i64 z9, .int .i64 d9, .int .i64 g9] ++ (rowsV leV (D.drop (k + 1))))) := Lib.hid ⟨hT5.size, hown⟩
            clear hown hgrow hblk HO2
            refine hK.out _ _ (HS.out _ hT5) (fun hHeld => ?_)
            clear hK K
            try simp only [Act.put, sA, sB, sC]
            refine tkH 16 ⟨some 82, _, _, _, _, _⟩ ?_ rfl ?_ (by assumption) ?_
            rotate_left
            · (intro w hSw; (try dsimp only at hSw); go_simp; all_goals with_reducible rfl)
            try simp only [Act.put, sA, sB, sC]
            refine wpAnyH_ready (rs := [17]) (by kernel_rfl) (by simp) ?_
            refine AllReadyH.cons rfl (fun K hK => ?_) (AllReadyH.nil)
            have hend8 := rowO_sl HO3.out hDl.out hDr.out
            have hs8 := hend8.1
            have hb8 := hend8.2.1
            have hn8 := hend8.2.2
            clear HO3 hend8
            have HL8 := Lib.hid hs8
            have HB8 := Lib.hid hb8
            have HN8 := Lib.hid hn8
            clear hs8 hb8 hn8
            have qf := (HQBu.out.below hT5).fz
            have z3 := (b4 (HQBu.out.below hT5)).2.2.2
            have hSs : (v5.setCell ⟨qb, 3, none⟩ (.slice B8 n3 cb8)).cell? ⟨w.heap.size, 0, none⟩ = some (.string nm) ∧ (v5.setCell ⟨qb, 3, none⟩ (.slice B8 n3 cb8)).cell? ⟨w.heap.size, 1, none⟩ = some (.int .i64 s) ∧ (v5.setCell ⟨qb, 3, none⟩ (.slice B8 n3 cb8)).cell? ⟨w.heap.size, 2, none⟩ = some (.slice A gn gc) ∧ (v5.setCell ⟨qb, 3, none⟩ (.slice B8 n3 cb8)).cell? ⟨w.heap.size, 3, none⟩ = some (.slice (some ⟨lb, lo, none⟩) dn dc) ∧ (v5.setCell ⟨qb, 3, none⟩ (.slice B8 n3 cb8)).cell? ⟨(w.heap.size + 1 + 1), 0, none⟩ = some (.int .i64 z9) ∧ (v5.setCell ⟨qb, 3, none⟩ (.slice B8 n3 cb8)).cell? ⟨(w.heap.size + 1 + 1), 1, none⟩ = some (.int .i64 d9) ∧ (v5.setCell ⟨qb, 3, none⟩ (.slice B8 n3 cb8)).cell? ⟨(w.heap.size + 1 + 1), 2, none⟩ = some (.int .i64 g9) ∧ (v5.setCell ⟨qb, 3, none⟩ (.slice B8 n3 cb8)).cell? ⟨fb, 0, none⟩ = some (.int .i64 q) ∧ (v5.setCell ⟨qb, 3, none⟩ (.slice B8 n3 cb8)).cell? ⟨fb, 1, none⟩ = some (.int .i64 f9) ∧ (v5.setCell ⟨qb, 3, none⟩ (.slice B8 n3 cb8)).cell? ⟨fb, 2, none⟩ = some (.int .i64 g9) := by
              obtain ⟨h0, h1, h2, h3, h4, h5, h6, h7, h8, h9⟩ := hHeld
              exact ⟨(World.cell?_of_block (a := ⟨w.heap.size, 0, none⟩) (Below.heap_setCell _ _ _ w.heap.size (show w.heap.size ≠ qb by omega))).trans h0, (World.cell?_of_block (a := ⟨w.heap.size, 1, none⟩) (Below.heap_setCell _ _ _ w.heap.size (show w.heap.size ≠ qb by omega))).trans h1, (World.cell?_of_block (a := ⟨w.heap.size, 2, none⟩) (Below.heap_setCell _ _ _ w.heap.size (show w.heap.size ≠ qb by omega))).trans h2, (World.cell?_of_block (a := ⟨w.heap.size, 3, none⟩) (Below.heap_setCell _ _ _ w.heap.size (show w.heap.size ≠ qb by omega))).trans h3, (World.cell?_of_block (a := ⟨(w.heap.size + 1 + 1), 0, none⟩) (Below.heap_setCell _ _ _ (w.heap.size + 1 + 1) (show (w.heap.size + 1 + 1) ≠ qb by omega))).trans h4, (World.cell?_of_block (a := ⟨(w.heap.size + 1 + 1), 1, none⟩) (Below.heap_setCell _ _ _ (w.heap.size + 1 + 1) (show (w.heap.size + 1 + 1) ≠ qb by omega))).trans h5, (World.cell?_of_block (a := ⟨(w.heap.size + 1 + 1), 2, none⟩) (Below.heap_setCell _ _ _ (w.heap.size + 1 + 1) (show (w.heap.size + 1 + 1) ≠ qb by omega))).trans h6, (World.cell?_of_block (a := ⟨fb, 0, none⟩) (Below.heap_setCell _ _ _ fb (show fb ≠ qb by omega))).trans h7, (World.cell?_of_block (a := ⟨fb, 1, none⟩) (Below.heap_setCell _ _ _ fb (show fb ≠ qb by omega))).trans h8, (World.cell?_of_block (a := ⟨fb, 2, none⟩) (Below.heap_setCell _ _ _ fb (show fb ≠ qb by omega))).trans h9⟩
            have HSs := Lib.hid hSs
            clear hSs
            go_simp
            go_wp2_with fail
            refine hK.out _ _ HSs.out (fun hHeld => ?_)
            clear hK K HSs qf z3
            try simp only [Act.put, sA, sB, sC]
            refine wpAnyH_done (by kernel_rfl) ?_ _
            have zB : Below w.heap.size w (v5.setCell ⟨qb, 3, none⟩ (.slice B8 n3 cb8)) := (hBu.trans (hT5.mono hBu.size)).setCell (p := ⟨qb, 3, none⟩) (show w.heap.size ≤ qb by omega) (.slice B8 n3 cb8)
            have zR : BlkF (v5.setCell ⟨qb, 3, none⟩ (.slice B8 n3 cb8)) w.heap.size (w.heap.size + 1) [.string { data := #[] }, .int .i64 0, .slice none 0 0, .slice none 0 0] := blkF_cellsEq (HRBu.out.below hT5) (by simp) (Below.heap_setCell _ _ _ _ (show w.heap.size + 1 ≠ qb by omega))
            have zQ : BlkF (v5.setCell ⟨qb, 3, none⟩ (.slice B8 n3 cb8)) w.heap.size qb [.string nm, .int .i64 s, .slice A9 gn ca, (.slice B8 n3 cb8)] := (HQBu.out.below hT5).put (i := 3) (.slice B8 n3 cb8) (by simp)
            have zG : SlRows gaV 2 (v5.setCell ⟨qb, 3, none⟩ (.slice B8 n3 cb8)) A9 G := sl_cellsEq (HGAu.out.below hT5) (by simp) (fun ad had => Below.heap_setCell _ _ _ _ (hqa.out ad had))
            have z3 : SlRows leV 3 (v5.setCell ⟨qb, 3, none⟩ (.slice B8 n3 cb8)) B8 D9 := sl_cellsEq HL8.out (by simp) (fun ad had => Below.heap_setCell _ _ _ _ (by have := HB8.out ad had; have := HQBu.out.lt; show ad.block ≠ qb; omega))
            have ZZ := Lib.hid (And.intro zB (And.intro zR (And.intro zQ (And.intro zG (And.intro z3 (And.intro HB8.out HN8.out))))))
            clear zB zR zQ zG z3 hHeld HS HL8 HB8 HN8
            go_wp2_with fail
            go_meet
            exact ⟨B8, cb8, rfl, Lib.hid ZZ.out.1, Lib.hid ZZ.out.2.1, Lib.hid ZZ.out.2.2.1, Lib.hid ZZ.out.2.2.2.1, Lib.hid ZZ.out.2.2.2.2.1, Lib.hid ZZ.out.2.2.2.2.2.1, Lib.hid ZZ.out.2.2.2.2.2.2⟩
        · skip
          go_simp
          go_wp2_with fail
          refine hK.out _ _ (HS.out _ (hT0.alloc hT0.size _)) (fun hHeld => ?_)
          clear hK K
          try simp only [Act.put, sA, sB, sC]
          have HNbb := Lib.hid (BlkF.made (B := u.heap.size) v0 [.int .i64 q, .int .i64 f9, .int .i64 g9, .int .i64 z9, .int .i64 d9, .int .i64 g9] 79 hT0.size)
          have hbv0 : Below v0.heap.size v0 (v0.alloc (.cells #[.int .i64 q, .int .i64 f9, .int .i64 g9, .int .i64 z9, .int .i64 d9, .int .i64 g9] 79)) := (Below.refl _ _).alloc (Nat.le_refl _) _
          obtain ⟨bb, hbb⟩ : ∃ z, v0.heap.size = z := ⟨_, rfl⟩
          generalize hq0 : v0.alloc (.cells #[.int .i64 q, .int .i64 f9, .int .i64 g9, .int .i64 z9, .int .i64 d9, .int .i64 g9] 79) = v1 at *
          have hT1 : Below u.heap.size u v1 := hT0.trans (hbv0.mono hT0.size)
          rw [hbb] at HNbb ⊢
          clear hbv0 hq0 hbb
          refine wpAnyH_ready (rs := [0]) (by kernel_rfl) (by simp) ?_
          refine AllReadyH.cons rfl (fun K hK => ?_) (AllReadyH.nil)
          go_simp
          go_wp2_with fail
          refine hK.out _ _ (HS.out _ (hT1.alloc hT1.size _)) (fun hHeld => ?_)
          clear hK K
          try simp only [Act.put, sA, sB, sC]
          have HE0 : RowO (v1.alloc (.cells #[] 79)) u.heap.size (.slice (some ⟨v1.heap.size, 0, none⟩) 0 0) 0 [] := ⟨by have := hT1.size; simp; omega, own_emptyG hT1.size (World.alloc_heap_new v1 _)⟩
          have hbv1 : Below v1.heap.size v1 (v1.alloc (.cells #[] 79)) := (Below.refl _ _).alloc (Nat.le_refl _) _
          have hEB : bb ≠ v1.heap.size := by have := HNbb.out.lt; omega
          replace HNbb := Lib.hid (HNbb.out.below hbv1)
          obtain ⟨eb, heb⟩ : ∃ z, v1.heap.size = z := ⟨_, rfl⟩
          have heb2 : eb < (v1.alloc (.cells #[] 79)).heap.size := by simp; omega
          generalize hq1 : v1.alloc (.cells #[] 79) = v2 at *
          have hT2 : Below u.heap.size u v2 := hT1.trans (hbv1.mono hT1.size)
          rw [heb] at HE0 ⊢ hEB
          have HO := Lib.hid HE0
          clear HE0 hbv1 hq1 heb
          refine wpAnyH_ready (rs := [5]) (by kernel_rfl) (by simp) ?_
          refine AllReadyH.cons rfl (fun K hK => ?_) (AllReadyH.nil)
          rw [if_pos (by kernel_rfl)]
          refine oper_append_slG _ _ 38 rfl u.heap.size 79 i0 (.agg #[.int .i64 0, .int .i64 0, .int .i64 0]) 3 24 Try.underlying38 HI.out HZ0.out HZ1.out HZ2.out rfl (by decide) (.slice (some ⟨eb, 0, none⟩) 0 0) 0 [] rfl HO.out.2 (some ⟨lb, lo, none⟩) k dc (rowsV leV (D.take k)) rfl (fun h => by cases h) (by rw [rowsV_len spLe]; congr 1; rw [List.length_take]; have := hdn.out; omega) (srcG spLe (by decide) ((HDu.out.below hT2).part k)) (rows_one leV_one _) (by unfold maxLen; omega) (by omega) HO.out.1 ?_
          intro r1 v3 hown hgrow hblk
          have hT3 : Below u.heap.size u v3 := hT2.grown hgrow hT2.size (fun r hr => (own_blockG HO.out.2 r hr).1)
          replace HNbb := Lib.hid (blkF_grown HNbb.out hgrow (by simp [Value.ownBlock]; exact hEB))
          have HO1 : Hid (RowO v3 u.heap.size r1 (0 + k) ([] ++ (rowsV leV (D.take k)))) := Lib.hid ⟨hT3.size, hown⟩
          clear hown hgrow hblk HO
          skip
          refine hK.out _ _ (HS.out _ hT3) (fun hHeld => ?_)
          clear hK K
          try simp only [Act.put, sA, sB, sC]
          refine wpAnyH_ready (rs := [9]) (by kernel_rfl) (by simp) ?_
          refine AllReadyH.cons rfl (fun K hK => ?_) (AllReadyH.nil)
          rw [if_pos (by kernel_rfl)]
          refine oper_append_slG _ _ 38 rfl u.heap.size 79 i0 (.agg #[.int .i64 0, .int .i64 0, .int .i64 0]) 3 24 Try.underlying38 HI.out HZ0.out HZ1.out HZ2.out rfl (by decide) r1 (0 + k) ([] ++ (rowsV leV (D.take k))) rfl HO1.out.2 (some ⟨bb, 0, none⟩) 2 2 [.int .i64 q, .int .i64 f9, .int .i64 g9, .int .i64 z9, .int .i64 d9, .int .i64 g9] rfl (fun h => by cases h) rfl (fun ad had j v hj => by cases had; rw [addNR, Nat.zero_add]; exact HNbb.out.at' j v hj) (by intro v hv; simp at hv; rcases hv with rfl | rfl | rfl | rfl | rfl | rfl <;> rfl) (by unfold maxLen; omega) (by omega) HO1.out.1 ?_
          intro r2 v4 hown hgrow hblk
          have hT4 : Below u.heap.size u v4 := hT3.grown hgrow hT3.size (fun r hr => (own_blockG HO1.out.2 r hr).1)
          clear HNbb
          have HO2 : Hid (RowO v4 u.heap.size r2 ((0 + k) + 2) (([] ++ (rowsV leV (D.take k))) ++ [.int .i64 q, .int .i64 f9, .int .i64 g9, .int .i64 z9, .int .i64 d9, .int .i64 g9])) := Lib.hid ⟨hT4.size, hown⟩
          clear hown hgrow hblk HO1
          skip
          refine hK.out _ _ (HS.out _ hT4) (fun hHeld => ?_)
          clear hK K
          try simp only [Act.put, sA, sB, sC]
          refine wpAnyH_ready (rs := [15]) (by kernel_rfl) (by simp) ?_
          refine AllReadyH.cons rfl (fun K hK => ?_) (AllReadyH.nil)
          rw [if_pos (by kernel_rfl)]
          refine oper_append_slS _ _ 38 rfl u.heap.size 79 i0 (.agg #[.int .i64 0, .int .i64 0, .int .i64 0]) 3 24 Try.underlying38 HI.out HZ0.out HZ1.out HZ2.out rfl (by decide) r2 (0 + k + 2) ([] ++ (rowsV leV (D.take k)) ++ [.int .i64 q, .int .i64 f9, .int .i64 g9, .int .i64 z9, .int .i64 d9, .int .i64 g9]) rfl HO2.out.2 (some ⟨lb, lo + (k + 1) * 3, none⟩) (dn - (k + 1)) (dc - (k + 1)) (rowsV leV (D.drop (k + 1))) rfl (fun h => by cases h) (by rw [rowsV_len spLe]; congr 1; rw [List.length_drop]; have := hdn.out; omega) (srcG spLe (by decide) (HS3.out _ hT4)) (rows_one leV_one _) (by unfold maxLen; omega) (by omega) HO2.out.1 n3 hn3.out ?_
          intro B8 cb8 v5 hown hgrow hblk
          have hT5 : Below u.heap.size u v5 := hT4.grown hgrow hT4.size (fun r hr => (own_blockG HO2.out.2 r hr).1)
          have HO3 : Hid (RowO v5 u.heap.size (.slice B8 n3 cb8) n3 ([] ++ (rowsV leV (D.take k)) ++ [.int .i64 q, .int .i64 f9, .int .i64 g9, .int .i64 z9, .int .i64 d9, .int .i64 g9] ++ (rowsV leV (D.drop (k + 1))))) := Lib.hid ⟨hT5.size, hown⟩
          clear hown hgrow hblk HO2
          refine hK.out _ _ (HS.out _ hT5) (fun hHeld => ?_)
          clear hK K
          try simp only [Act.put, sA, sB, sC]
          refine tkH 16 ⟨some 82, _, _, _, _, _⟩ ?_ rfl ?_ (by assumption) ?_
          rotate_left
          · (intro w hSw; (try dsimp only at hSw); go_simp; all_goals with_reducible rfl)
          try simp only [Act.put, sA, sB, sC]
          refine wpAnyH_ready (rs := [17]) (by kernel_rfl) (by simp) ?_
          refine AllReadyH.cons rfl (fun K hK => ?_) (AllReadyH.nil)
          have hend8 := rowO_sl HO3.out hDl.out hDr.out
          have hs8 := hend8.1
          have hb8 := hend8.2.1
          have hn8 := hend8.2.2
          clear HO3 hend8
          have HL8 := Lib.hid hs8
          have HB8 := Lib.hid hb8
          have HN8 := Lib.hid hn8
          clear hs8 hb8 hn8
          have qf := (HQBu.out.below hT5).fz
          have z3 := (b4 (HQBu.out.below hT5)).2.2.2
          have hSs : (v5.setCell ⟨qb, 3, none⟩ (.slice B8 n3 cb8)).cell? ⟨w.heap.size, 0, none⟩ = some (.string nm) ∧ (v5.setCell ⟨qb, 3, none⟩ (.slice B8 n3 cb8)).cell? ⟨w.heap.size, 1, none⟩ = some (.int .i64 s) ∧ (v5.setCell ⟨qb, 3, none⟩ (.slice B8 n3 cb8)).cell? ⟨w.heap.size, 2, none⟩ = some (.slice A gn gc) ∧ (v5.setCell ⟨qb, 3, none⟩ (.slice B8 n3 cb8)).cell? ⟨w.heap.size, 3, none⟩ = some (.slice (some ⟨lb, lo, none⟩) dn dc) ∧ (v5.setCell ⟨qb, 3, none⟩ (.slice B8 n3 cb8)).cell? ⟨(w.heap.size + 1 + 1), 0, none⟩ = some (.int .i64 z9) ∧ (v5.setCell ⟨qb, 3, none⟩ (.slice B8 n3 cb8)).cell? ⟨(w.heap.size + 1 + 1), 1, none⟩ = some (.int .i64 d9) ∧ (v5.setCell ⟨qb, 3, none⟩ (.slice B8 n3 cb8)).cell? ⟨(w.heap.size + 1 + 1), 2, none⟩ = some (.int .i64 g9) ∧ (v5.setCell ⟨qb, 3, none⟩ (.slice B8 n3 cb8)).cell? ⟨fb, 0, none⟩ = some (.int .i64 q) ∧ (v5.setCell ⟨qb, 3, none⟩ (.slice B8 n3 cb8)).cell? ⟨fb, 1, none⟩ = some (.int .i64 f9) ∧ (v5.setCell ⟨qb, 3, none⟩ (.slice B8 n3 cb8)).cell? ⟨fb, 2, none⟩ = some (.int .i64 g9) := by
            obtain ⟨h0, h1, h2, h3, h4, h5, h6, h7, h8, h9⟩ := hHeld
            exact ⟨(World.cell?_of_block (a := ⟨w.heap.size, 0, none⟩) (Below.heap_setCell _ _ _ w.heap.size (show w.heap.size ≠ qb by omega))).trans h0, (World.cell?_of_block (a := ⟨w.heap.size, 1, none⟩) (Below.heap_setCell _ _ _ w.heap.size (show w.heap.size ≠ qb by omega))).trans h1, (World.cell?_of_block (a := ⟨w.heap.size, 2, none⟩) (Below.heap_setCell _ _ _ w.heap.size (show w.heap.size ≠ qb by omega))).trans h2, (World.cell?_of_block (a := ⟨w.heap.size, 3, none⟩) (Below.heap_setCell _ _ _ w.heap.size (show w.heap.size ≠ qb by omega))).trans h3, (World.cell?_of_block (a := ⟨(w.heap.size + 1 + 1), 0, none⟩) (Below.heap_setCell _ _ _ (w.heap.size + 1 + 1) (show (w.heap.size + 1 + 1) ≠ qb by omega))).trans h4, (World.cell?_of_block (a := ⟨(w.heap.size + 1 + 1), 1, none⟩) (Below.heap_setCell _ _ _ (w.heap.size + 1 + 1) (show (w.heap.size + 1 + 1) ≠ qb by omega))).trans h5, (World.cell?_of_block (a := ⟨(w.heap.size + 1 + 1), 2, none⟩) (Below.heap_setCell _ _ _ (w.heap.size + 1 + 1) (show (w.heap.size + 1 + 1) ≠ qb by omega))).trans h6, (World.cell?_of_block (a := ⟨fb, 0, none⟩) (Below.heap_setCell _ _ _ fb (show fb ≠ qb by omega))).trans h7, (World.cell?_of_block (a := ⟨fb, 1, none⟩) (Below.heap_setCell _ _ _ fb (show fb ≠ qb by omega))).trans h8, (World.cell?_of_block (a := ⟨fb, 2, none⟩) (Below.heap_setCell _ _ _ fb (show fb ≠ qb by omega))).trans h9⟩
          have HSs := Lib.hid hSs
          clear hSs
          go_simp
          go_wp2_with fail
          refine hK.out _ _ HSs.out (fun hHeld => ?_)
          clear hK K HSs qf z3
          try simp only [Act.put, sA, sB, sC]
          refine wpAnyH_done (by kernel_rfl) ?_ _
          have zB : Below w.heap.size w (v5.setCell ⟨qb, 3, none⟩ (.slice B8 n3 cb8)) := (hBu.trans (hT5.mono hBu.size)).setCell (p := ⟨qb, 3, none⟩) (show w.heap.size ≤ qb by omega) (.slice B8 n3 cb8)
          have zR : BlkF (v5.setCell ⟨qb, 3, none⟩ (.slice B8 n3 cb8)) w.heap.size (w.heap.size + 1) [.string { data := #[] }, .int .i64 0, .slice none 0 0, .slice none 0 0] := blkF_cellsEq (HRBu.out.below hT5) (by simp) (Below.heap_setCell _ _ _ _ (show w.heap.size + 1 ≠ qb by omega))
          have zQ : BlkF (v5.setCell ⟨qb, 3, none⟩ (.slice B8 n3 cb8)) w.heap.size qb [.string nm, .int .i64 s, .slice A9 gn ca, (.slice B8 n3 cb8)] := (HQBu.out.below hT5).put (i := 3) (.slice B8 n3 cb8) (by simp)
          have zG : SlRows gaV 2 (v5.setCell ⟨qb, 3, none⟩ (.slice B8 n3 cb8)) A9 G := sl_cellsEq (HGAu.out.below hT5) (by simp) (fun ad had => Below.heap_setCell _ _ _ _ (hqa.out ad had))
          have z3 : SlRows leV 3 (v5.setCell ⟨qb, 3, none⟩ (.slice B8 n3 cb8)) B8 D9 := sl_cellsEq HL8.out (by simp) (fun ad had => Below.heap_setCell _ _ _ _ (by have := HB8.out ad had; have := HQBu.out.lt; show ad.block ≠ qb; omega))
          have ZZ := Lib.hid (And.intro zB (And.intro zR (And.intro zQ (And.intro zG (And.intro z3 (And.intro HB8.out HN8.out))))))
          clear zB zR zQ zG z3 hHeld HS HL8 HB8 HN8
          go_wp2_with fail
          go_meet
          exact ⟨B8, cb8, rfl, Lib.hid ZZ.out.1, Lib.hid ZZ.out.2.1, Lib.hid ZZ.out.2.2.1, Lib.hid ZZ.out.2.2.2.1, Lib.hid ZZ.out.2.2.2.2.1, Lib.hid ZZ.out.2.2.2.2.2.1, Lib.hid ZZ.out.2.2.2.2.2.2⟩
    case rest =>
      clear HS
      obtain ⟨B8, cb8, rfl, zB, HZR, HZQ, HZG, HL8, HB8, HN8⟩ := hcut
      have hBz := zB.out
      have hqu : qb < u.heap.size := HQBu.out.lt
      have en3 : n3 = dn + 1 := by have := hn3.out; omega
      rw [en3] at HZQ
      clear en3
      obtain ⟨z0, z1, z2, z3⟩ := b4 HZQ.out
      have lqz := HZQ.out.lt
      obtain ⟨r6, hr6⟩ : ∃ z, w.heap.size + 1 = z := ⟨_, rfl⟩
      rw [hr6] at HZR ⊢
      have HNr6 := HZR
      have lr6 := HZR.out.lt
      have hr6q : qb ≠ r6 := by omega
      have hB0v := hBz
      have hlen : ((dn + 1 : Nat) : Int) = (dn : Int) + 1 := by omega
      obtain ⟨bv, hbv⟩ : ∃ z, Hid (decide ((dn : Int) + 1 ≤ 60) = z) := ⟨_, Lib.hid rfl⟩
      have hbv2 : decide ((dn : Int) + 1 ≤ 60) = bv := hbv.out
      have HS : Hid (∀ y, Below wc.heap.size wc y → y.cell? ⟨qb, 0, none⟩ = some (.string nm) ∧ y.cell? ⟨qb, 1, none⟩ = some (.int .i64 s) ∧ y.cell? ⟨qb, 2, none⟩ = some (.slice A9 gn ca) ∧ y.cell? ⟨qb, 3, none⟩ = some (.slice B8 (dn + 1) cb8)) := Lib.hid fun y hy => ⟨(hy.cell (p := ⟨qb, 0, none⟩) lqz).trans z0, (hy.cell (p := ⟨qb, 1, none⟩) lqz).trans z1, (hy.cell (p := ⟨qb, 2, none⟩) lqz).trans z2, (hy.cell (p := ⟨qb, 3, none⟩) lqz).trans z3⟩
      go_upto_region 12 with (fail)
      refine wp_region_held_drew (S := (fun w' => w'.cell? ⟨qb, 0, none⟩ = some (.string nm) ∧ w'.cell? ⟨qb, 1, none⟩ = some (.int .i64 s) ∧ w'.cell? ⟨qb, 2, none⟩ = some (.slice A9 gn ca) ∧ w'.cell? ⟨qb, 3, none⟩ = some (.slice B8 (dn + 1) cb8))) (by kernel_rfl) (HS.out _ (Below.refl _ _).drew) (fun hHeld => ?_)
      have hT0 : Below wc.heap.size wc wc.drew := (Below.refl _ _).drew
      replace HNr6 := Lib.hid (HNr6.out.below (Below.refl wc.heap.size wc).drew)
      replace HZG := Lib.hid (HZG.out.below (Below.refl wc.heap.size wc).drew)
      replace HL8 := Lib.hid (HL8.out.below (Below.refl wc.heap.size wc).drew)
      generalize hdr : wc.drew = y0 at *
      clear hdr
      refine tkH 0 ⟨some 83, _, _, _, _, _⟩ ?_ rfl ?_ (by assumption) ?_
      rotate_left
      · (intro w hSw; (try dsimp only at hSw); go_simp; all_goals with_reducible rfl)
      try simp only [Act.put, sA, sB, sC]
      refine tkH 1 ⟨some 84, _, _, _, _, _⟩ ?_ rfl ?_ (by assumption) ?_
      rotate_left
      · (intro w hSw; (try dsimp only at hSw); go_simp; all_goals with_reducible rfl)
      try simp only [Act.put, sA, sB, sC]
      refine tkH 2 ⟨some 85, _, _, _, _, _⟩ ?_ rfl ?_ (by assumption) ?_
      rotate_left
      · (intro w hSw; (try dsimp only at hSw); go_simp; all_goals with_reducible rfl)
      try simp only [Act.put, sA, sB, sC]
      refine tkH 3 ⟨some 86, _, _, _, _, _⟩ ?_ rfl ?_ (by assumption) ?_
      rotate_left
      · (intro w hSw; (try dsimp only at hSw); go_simp; all_goals with_reducible rfl)
      try simp only [Act.put, sA, sB, sC]
      refine tkH 4 ⟨some 87, _, _, _, _, _⟩ ?_ rfl ?_ (by assumption) ?_
      rotate_left
      · (intro w hSw; (try dsimp only at hSw); go_simp; all_goals with_reducible rfl)
      try simp only [Act.put, sA, sB, sC]
      refine wpAnyH_ready (rs := [5]) (by kernel_rfl) (by simp) ?_
      refine AllReadyH.cons rfl (fun K hK => ?_) (AllReadyH.nil)
      have HBs := Lib.hid (BlkF.st (vs' := [.string nm, .int .i64 s, .slice A9 gn ca, .slice B8 (dn + 1) cb8]) HNr6.out rfl)
      have hTs := Lib.hid (stW_below (N := w.heap.size) (w := w) HNr6.out.ge [.string nm, .int .i64 s, .slice A9 gn ca, .slice B8 (dn + 1) cb8] y0 0 (hB0v.trans (hT0.mono hB0v.size)))
      have EHZG := Lib.hid (HZG.out.other (c := r6) (i := 0) (l := [.string nm, .int .i64 s, .slice A9 gn ca, .slice B8 (dn + 1) cb8]) (fun ad had => by have := hqr.out ad had; omega))
      have EHL8 := Lib.hid (HL8.out.other (c := r6) (i := 0) (l := [.string nm, .int .i64 s, .slice A9 gn ca, .slice B8 (dn + 1) cb8]) (fun ad had => by have := HB8.out ad had; omega))
      have hSs : ((((y0.setCell ⟨r6, 0, none⟩ (.string nm)).setCell ⟨r6, 1, none⟩ (.int .i64 s)).setCell ⟨r6, 2, none⟩ (.slice A9 gn ca)).setCell ⟨r6, 3, none⟩ (.slice B8 (dn + 1) cb8)).cell? ⟨qb, 0, none⟩ = some (.string nm) ∧ ((((y0.setCell ⟨r6, 0, none⟩ (.string nm)).setCell ⟨r6, 1, none⟩ (.int .i64 s)).setCell ⟨r6, 2, none⟩ (.slice A9 gn ca)).setCell ⟨r6, 3, none⟩ (.slice B8 (dn + 1) cb8)).cell? ⟨qb, 1, none⟩ = some (.int .i64 s) ∧ ((((y0.setCell ⟨r6, 0, none⟩ (.string nm)).setCell ⟨r6, 1, none⟩ (.int .i64 s)).setCell ⟨r6, 2, none⟩ (.slice A9 gn ca)).setCell ⟨r6, 3, none⟩ (.slice B8 (dn + 1) cb8)).cell? ⟨qb, 2, none⟩ = some (.slice A9 gn ca) ∧ ((((y0.setCell ⟨r6, 0, none⟩ (.string nm)).setCell ⟨r6, 1, none⟩ (.int .i64 s)).setCell ⟨r6, 2, none⟩ (.slice A9 gn ca)).setCell ⟨r6, 3, none⟩ (.slice B8 (dn + 1) cb8)).cell? ⟨qb, 3, none⟩ = some (.slice B8 (dn + 1) cb8) := by
        obtain ⟨h0, h1, h2, h3⟩ := hHeld
        exact ⟨(stW_oc (l := [.string nm, .int .i64 s, .slice A9 gn ca, .slice B8 (dn + 1) cb8]) (i := 0) (show qb ≠ r6 by omega) (0)).trans h0, (stW_oc (l := [.string nm, .int .i64 s, .slice A9 gn ca, .slice B8 (dn + 1) cb8]) (i := 0) (show qb ≠ r6 by omega) (1)).trans h1, (stW_oc (l := [.string nm, .int .i64 s, .slice A9 gn ca, .slice B8 (dn + 1) cb8]) (i := 0) (show qb ≠ r6 by omega) (2)).trans h2, (stW_oc (l := [.string nm, .int .i64 s, .slice A9 gn ca, .slice B8 (dn + 1) cb8]) (i := 0) (show qb ≠ r6 by omega) (3)).trans h3⟩
      obtain ⟨k0, k1, k2, k3⟩ := b4 HNr6.out
      have kf := HNr6.out.fz
      go_simp
      go_wp2_with fail
      refine hK.out _ _ hSs (fun hHeld => ?_)
      clear hK K kf hSs k0 k1 k2 k3
      try simp only [Act.put, sA, sB, sC]
      refine tkH 6 ⟨some 7, _, _, _, _, _⟩ ?_ rfl ?_ (by assumption) ?_
      rotate_left
      · (intro w hSw; (try dsimp only at hSw); go_simp; all_goals with_reducible rfl)
      try simp only [Act.put, sA, sB, sC]
      refine wpAnyH_done (by kernel_rfl) ?_ _
      refine ex_world (fun vz => BlkF vz w.heap.size r6 [.string nm, .int .i64 s, .slice A9 gn ca, .slice B8 (dn + 1) cb8] ∧ Below w.heap.size w vz ∧ SlRows gaV 2 vz A9 G ∧ SlRows leV 3 vz B8 D9) ⟨HBs.out, hTs.out, EHZG.out, EHL8.out⟩ (fun vz hvz => ?_)
      obtain ⟨HBz, hTz, ZHZG, ZHL8⟩ := hvz
      clear hHeld HS HBs hTs EHZG EHL8
      have HGz := Lib.hid ZHZG
      have HLz := Lib.hid ZHL8
      have HTz := Lib.hid hTz
      obtain ⟨o0, o1, o2, o3⟩ := b4 HBz
      clear ZHZG ZHL8 hTz
      have hpost : DivP nm s G D9 gn dn bv w (.returned (.tuple #[.agg #[.string nm, .int .i64 s, .slice A9 gn ca, .slice B8 (dn + 1) cb8], .bool bv])) vz := ⟨A9, ca, B8, cb8, rfl, HGz.out, HLz.out, HNA.out, HN8.out, HTz.out⟩
      have HPP := Lib.hid hpost
      clear hpost HGz HLz HTz
      go_wp2
      refine bodyPost_ret (v := .tuple #[.agg #[.string nm, .int .i64 s, .slice A9 gn ca, .slice B8 (dn + 1) cb8], .bool bv]) (by simp [results, Try.results30, go_sem, *]) rfl ?_
      rw [hf9.out, hz9.out, hD9.out, hbv.out]
      exact HPP.out
end Go.Proofs.Ytijdphlejokijaa
