import Derived.Test.YtgidmmmdpmophaaRSFEName
import Derived.Test.YtgidmmmdpmophaaRSFLeaf
import Derived.Outline
namespace Go.Proofs.Ytgidmmmdpmophaa
open Go.ChangeShapes Go.WideShapes Go.ChangeAt Go.RowKit
set_option linter.unusedVariables false
set_option linter.unusedSimpArgs false
attribute [local go_sem ↓] Go.wp_at_zero Go.wp_at_succ
def gaE (x : Ga) : Int := gasE x.o x.h
def gasesE (G : List Ga) : Int := if G.length = 0 then 10 else if 8 < G.length then 8 else fstI gaE G
def legsGo : List Le → Int → Int → Nat → Nat × Int
  | [], _, _, _ => (0, 0)
  | x :: l, ng, e, i => if (inB x.s 1 1000000 && inB x.d 0 30000) = false then (i, 2) else if inB x.g 0 (ng - 1) = false then (i, 6) else if 1000000 < e + x.s then (i, 8) else legsGo l ng (e + x.s) (i + 1)
def legsE (D : List Le) (ng : Int) : Nat × Int := if 60 < D.length then (0, 8) else legsGo D ng 0 0
def plnP (nm : ByteArray) (s : Int) (G : List Ga) (D : List Le) : Nat × Int :=
  if nameB nm = false then (0, 4) else if inB s 400 1100 = false then (0, 2) else if gasesE G ≠ 0 then (0, gasesE G) else legsE D G.length
/-- The seconds of the first legs. -/
def secs : List Le → Int
  | [] => 0
  | x :: l => x.s + secs l
theorem legsGo_drop {D : List Le} {ng e : Int} {j : Nat} (hj : j < D.length) : legsGo (D.drop j) ng e j = if (inB D[j].s 1 1000000 && inB D[j].d 0 30000) = false then (j, 2) else if inB D[j].g 0 (ng - 1) = false then (j, 6) else if 1000000 < e + D[j].s then (j, 8) else legsGo (D.drop (j + 1)) ng (e + D[j].s) (j + 1) := by
  rw [List.drop_eq_getElem_cons hj]; rfl
set_option maxRecDepth 100000 in
set_option maxHeartbeats 1000000 in
theorem pCheckGases_any (G : List Ga) (A : Option Addr) (n cap : Nat) (E : Int) (w : World) (hn : Hid (n = G.length)) (hl : n ≤ 9223372036854775807) (hG : Hid (SlRows gaV 2 w A G)) (hE : Hid (gasesE G = E)) :
    Calls Try.prog 74 #[.slice A n cap] w fun e w' => e = .returned (.int .i64 E) ∧ Below w.heap.size w w' := by
  have he := hE.out
  unfold gasesE at he
  rw [← hn.out] at he
  clear hE
  by_cases h0 : n = 0
  · rw [if_pos h0] at he
    have HE := Lib.hid he
    have f0 : ((n : Int) == 0) = true := by simpa using h0
    clear he
    subst h0
    go_enter Try.func74, Try.ntmps74
    go_wp2
    go_ret
    exact ⟨ret_int HE.out, Below.refl _ _⟩
  rw [if_neg h0] at he
  have f0 : ((n : Int) == 0) = false := by simpa using h0
  by_cases h8 : 8 < n
  · rw [if_pos h8] at he
    have HE := Lib.hid he
    have f8 : (8 : Int) < (n : Int) := by omega
    clear he
    go_enter Try.func74, Try.ntmps74
    go_wp2
    go_ret
    exact ⟨ret_int HE.out, Below.refl _ _⟩
  rw [if_neg h8] at he
  have HE := Lib.hid he
  have f8 : ¬ (8 : Int) < (n : Int) := by omega
  clear he
  go_enter Try.func74, Try.ntmps74
  go_wp2
  go_loopw [14] (fun i wr => ∃ k : Nat, k ≤ n ∧ i = .int .i64 k ∧ Hid (∀ j, (hj : j < k) → (hl : j < G.length) → gaE G[j] = 0) ∧ Below w.heap.size w wr) (fun i _ => n - (intOf i).toNat)
  case atStart => exact ⟨0, by omega, rfl, Lib.hid fun j hj => absurd hj (by omega), Below.refl _ _⟩
  case round =>
    obtain ⟨k, hk, rfl, hz, hB⟩ := hrel
    have zb := hB.size
    by_cases hkn : k < n
    · have kn : (k : Int) < (n : Int) := by omega
      have hkG : k < G.length := by have := hn.out; omega
      obtain ⟨b, o, rfl, hlt, hR⟩ := (hG.out.below hB).at' hkG
      obtain ⟨c0, c1⟩ := ga_at hR hkG
      obtain ⟨e, hee⟩ : ∃ e, Hid (gasE G[k].o G[k].h = e) := ⟨_, Lib.hid rfl⟩
      obtain ⟨go, hgo⟩ : ∃ z, Hid (G[k].o = z) := ⟨_, Lib.hid rfl⟩
      obtain ⟨gh, hgh⟩ : ∃ z, Hid (G[k].h = z) := ⟨_, Lib.hid rfl⟩
      have hg : Hid (gaE G[k] = e) := Lib.hid hee.out
      rw [hgo.out] at c0
      rw [hgh.out] at c1
      rw [hgo.out, hgh.out] at hee
      have HC : ∀ X : World, Calls Try.prog 79 #[.agg #[.int .i64 go, .int .i64 gh]] X fun e' w' => e' = .returned (.int .i64 e) ∧ Below X.heap.size X w' := fun X => (CheckGas_any go gh X).mono fun e' w' h => ⟨by rw [h.1, hee.out], by rw [← h.2]; exact (Below.refl _ _).alloc (Nat.le_refl _) _⟩
      have hf := Lib.hid (@fstI_stop _ gaE G k hkG)
      clear hR
      go_wp2_with fail
      refine (HC _).mono ?_
      rintro e' w1 ⟨rfl, hb1⟩
      have hB1 : Below w.heap.size w w1 := (by (repeat (first | (with_reducible refine Below.drew ?_) | (with_reducible refine below_drewN ?_ _) | (with_reducible refine Below.alloc ?_ (by first | omega | (simp; done) | (simp; omega) | (simp at *; omega)) _) | (with_reducible refine Below.setCell ?_ (by first | omega | (simp; done) | (simp; omega) | (simp at *; omega)) _) | (with_reducible exact Below.refl _ _) | (with_reducible assumption) | (with_reducible refine Below.trans ?_ (Below.mono (by assumption) (by first | omega | (simp; done) | (simp; omega) | (simp at *; omega)))))))
      clear hb1 hB zb c0 c1 hlt
      by_cases h1 : e = 0
      · subst h1
        go_wp2
        go_roundw
        case rel => exact ⟨k + 1, by omega, by go_num, Lib.hid (fun j hj hl => by
          by_cases ej : j = k
          · subst ej; exact hg.out
          · exact hz.out j (by omega) hl), hB1⟩
        case measure => simp [intOf]; omega
      · have he1 : (e != 0) = true := by simpa using h1
        have hr : Hid (E = e) := Lib.hid (by rw [← HE.out, hf.out (fun j hj => hz.out j hj (by omega)) (by rw [hg.out]; exact h1)]; exact hg.out)
        go_wp2
        go_ret
        exact ⟨ret_int hr.out.symm, hB1⟩
    · have kn : ¬ (k : Int) < (n : Int) := by omega
      have hr : Hid (E = 0) := Lib.hid (by rw [← HE.out]; exact fstI_all fun j hj => hz.out j (by have := hn.out; omega) hj)
      go_wp2
      go_ret
      exact ⟨ret_int hr.out.symm, hB⟩
set_option maxRecDepth 100000 in
set_option maxHeartbeats 2000000 in
theorem pCheckLegs_any (D : List Le) (A : Option Addr) (n cap ng N : Nat) (E : Int) (w : World) (hn : Hid (n = D.length)) (hl : n ≤ 9223372036854775807) (hng : ng ≤ 1000000) (hD : Hid (SlRows leV 3 w A D)) (hE : Hid (legsE D ng = (N, E))) :
    Calls Try.prog 75 #[.slice A n cap, .int .i64 ng] w fun e w' => e = .returned (.tuple #[.int .i64 N, .int .i64 E]) ∧ Below w.heap.size w w' := by
  have he := hE.out
  unfold legsE at he
  rw [← hn.out] at he
  clear hE
  by_cases h6 : 60 < n
  · rw [if_pos h6] at he
    obtain ⟨rfl, rfl⟩ := Prod.mk.inj he
    have f6 : (60 : Int) < (n : Int) := by omega
    clear he
    go_enter Try.func75, Try.ntmps75
    go_wp2
    go_ret2
    exact ⟨rfl, Below.refl _ _⟩
  rw [if_neg h6] at he
  have HE := Lib.hid he
  have f6 : ¬ (60 : Int) < (n : Int) := by omega
  clear he
  go_enter Try.func75, Try.ntmps75
  go_wp2
  go_loopw [6, 14] (fun t i wr => ∃ (k : Nat) (e : Int), k ≤ n ∧ i = .int .i64 k ∧ t = .int .i64 e ∧ (0 ≤ e ∧ e ≤ 1000000) ∧ Hid (legsGo (D.drop k) ng e k = (N, E)) ∧ Below w.heap.size w wr) (fun _ i _ => n - (intOf i).toNat)
  case atStart => exact ⟨0, 0, by omega, rfl, rfl, by omega, HE, Below.refl _ _⟩
  case round =>
    clear HE
    obtain ⟨k, e, hk, rfl, rfl, he, hz, hB⟩ := hrel
    have zb := hB.size
    by_cases hkn : k < n
    · have kn : (k : Int) < (n : Int) := by omega
      have hkD : k < D.length := by have := hn.out; omega
      obtain ⟨b, o, rfl, hlt, hR⟩ := (hD.out.below hB).at' hkD
      obtain ⟨c0, c1, c2⟩ := le_at hR hkD
      have hy := hz.out
      rw [legsGo_drop hkD] at hy
      obtain ⟨s, hs⟩ : ∃ z, Hid (D[k].s = z) := ⟨_, Lib.hid rfl⟩
      obtain ⟨d, hd⟩ : ∃ z, Hid (D[k].d = z) := ⟨_, Lib.hid rfl⟩
      obtain ⟨g, hg⟩ : ∃ z, Hid (D[k].g = z) := ⟨_, Lib.hid rfl⟩
      rw [hs.out] at c0
      rw [hd.out] at c1
      rw [hg.out] at c2
      rw [hs.out, hd.out, hg.out] at hy
      clear hR hz
      by_cases h1 : inB s 1 1000000 = true
      · have H1 := Lib.hid h1
        obtain ⟨s0, s1⟩ := inB_iff.1 h1
        by_cases h2 : inB d 0 30000 = true
        · have H2 := Lib.hid h2
          rw [h1, h2, if_neg (by simp)] at hy
          by_cases h3 : inB g 0 ((ng : Int) - 1) = true
          · have H3 := Lib.hid h3
            rw [h3, if_neg (by simp)] at hy
            by_cases h4 : 1000000 < e + s
            · rw [if_pos h4] at hy
              obtain ⟨rfl, rfl⟩ := Prod.mk.inj hy
              clear hy h1 h2 h3
              go_wp2_with (first | (go_at_call 55; first | ((with_reducible refine (pWithin_is _ _ _ _ _ H1).mono ?_); rintro e w' ⟨rfl, rfl⟩) | ((with_reducible refine (pWithin_is _ _ _ _ _ H3).mono ?_); rintro e w' ⟨rfl, rfl⟩)) | (go_at_call 80; ((with_reducible refine (pIsDepth_is _ _ _ H2).mono ?_)); rintro e w' ⟨rfl, rfl⟩))
              go_ret2
              exact ⟨rfl, (by (repeat (first | (with_reducible refine Below.drew ?_) | (with_reducible refine below_drewN ?_ _) | (with_reducible refine Below.alloc ?_ (by first | omega | (simp; done) | (simp; omega) | (simp at *; omega)) _) | (with_reducible refine Below.setCell ?_ (by first | omega | (simp; done) | (simp; omega) | (simp at *; omega)) _) | (with_reducible exact Below.refl _ _) | (with_reducible assumption) | (with_reducible refine Below.trans ?_ (Below.mono (by assumption) (by first | omega | (simp; done) | (simp; omega) | (simp at *; omega)))))))⟩
            · rw [if_neg h4] at hy
              have HY := Lib.hid hy
              clear hy h1 h2 h3
              go_wp2_with (first | (go_at_call 55; first | ((with_reducible refine (pWithin_is _ _ _ _ _ H1).mono ?_); rintro e w' ⟨rfl, rfl⟩) | ((with_reducible refine (pWithin_is _ _ _ _ _ H3).mono ?_); rintro e w' ⟨rfl, rfl⟩)) | (go_at_call 80; ((with_reducible refine (pIsDepth_is _ _ _ H2).mono ?_)); rintro e w' ⟨rfl, rfl⟩))
              go_roundw
              case rel => exact ⟨k + 1, e + s, by omega, by go_num, rfl, by omega, HY, (by (repeat (first | (with_reducible refine Below.drew ?_) | (with_reducible refine below_drewN ?_ _) | (with_reducible refine Below.alloc ?_ (by first | omega | (simp; done) | (simp; omega) | (simp at *; omega)) _) | (with_reducible refine Below.setCell ?_ (by first | omega | (simp; done) | (simp; omega) | (simp at *; omega)) _) | (with_reducible exact Below.refl _ _) | (with_reducible assumption) | (with_reducible refine Below.trans ?_ (Below.mono (by assumption) (by first | omega | (simp; done) | (simp; omega) | (simp at *; omega)))))))⟩
              case measure => simp [intOf]; omega
          · have h3' : inB g 0 ((ng : Int) - 1) = false := by simpa using h3
            have H3 := Lib.hid h3'
            rw [if_pos h3'] at hy
            obtain ⟨rfl, rfl⟩ := Prod.mk.inj hy
            clear hy h1 h2 h3 h3'
            go_wp2_with (first | (go_at_call 55; first | ((with_reducible refine (pWithin_is _ _ _ _ _ H1).mono ?_); rintro e w' ⟨rfl, rfl⟩) | ((with_reducible refine (pWithin_is _ _ _ _ _ H3).mono ?_); rintro e w' ⟨rfl, rfl⟩)) | (go_at_call 80; ((with_reducible refine (pIsDepth_is _ _ _ H2).mono ?_)); rintro e w' ⟨rfl, rfl⟩))
            go_ret2
            exact ⟨rfl, (by (repeat (first | (with_reducible refine Below.drew ?_) | (with_reducible refine below_drewN ?_ _) | (with_reducible refine Below.alloc ?_ (by first | omega | (simp; done) | (simp; omega) | (simp at *; omega)) _) | (with_reducible refine Below.setCell ?_ (by first | omega | (simp; done) | (simp; omega) | (simp at *; omega)) _) | (with_reducible exact Below.refl _ _) | (with_reducible assumption) | (with_reducible refine Below.trans ?_ (Below.mono (by assumption) (by first | omega | (simp; done) | (simp; omega) | (simp at *; omega)))))))⟩
        · have h2' : inB d 0 30000 = false := by simpa using h2
          have H2 := Lib.hid h2'
          rw [h1, h2', if_pos (by simp)] at hy
          obtain ⟨rfl, rfl⟩ := Prod.mk.inj hy
          clear hy h1 h2 h2'
          go_wp2_with (first | (go_at_call 55; ((with_reducible refine (pWithin_is _ _ _ _ _ H1).mono ?_)); rintro e w' ⟨rfl, rfl⟩) | (go_at_call 80; ((with_reducible refine (pIsDepth_is _ _ _ H2).mono ?_)); rintro e w' ⟨rfl, rfl⟩))
          go_ret2
          exact ⟨rfl, (by (repeat (first | (with_reducible refine Below.drew ?_) | (with_reducible refine below_drewN ?_ _) | (with_reducible refine Below.alloc ?_ (by first | omega | (simp; done) | (simp; omega) | (simp at *; omega)) _) | (with_reducible refine Below.setCell ?_ (by first | omega | (simp; done) | (simp; omega) | (simp at *; omega)) _) | (with_reducible exact Below.refl _ _) | (with_reducible assumption) | (with_reducible refine Below.trans ?_ (Below.mono (by assumption) (by first | omega | (simp; done) | (simp; omega) | (simp at *; omega)))))))⟩
      · have h1' : inB s 1 1000000 = false := by simpa using h1
        have H1 := Lib.hid h1'
        rw [h1', if_pos (by simp)] at hy
        obtain ⟨rfl, rfl⟩ := Prod.mk.inj hy
        clear hy h1 h1'
        go_wp2_with ((go_at_call 55; ((with_reducible refine (pWithin_is _ _ _ _ _ H1).mono ?_)); rintro e w' ⟨rfl, rfl⟩))
        go_ret2
        exact ⟨rfl, (by (repeat (first | (with_reducible refine Below.drew ?_) | (with_reducible refine below_drewN ?_ _) | (with_reducible refine Below.alloc ?_ (by first | omega | (simp; done) | (simp; omega) | (simp at *; omega)) _) | (with_reducible refine Below.setCell ?_ (by first | omega | (simp; done) | (simp; omega) | (simp at *; omega)) _) | (with_reducible exact Below.refl _ _) | (with_reducible assumption) | (with_reducible refine Below.trans ?_ (Below.mono (by assumption) (by first | omega | (simp; done) | (simp; omega) | (simp at *; omega)))))))⟩
    · have kn : ¬ (k : Int) < (n : Int) := by omega
      have hy := hz.out
      rw [List.drop_eq_nil_of_le (by have := hn.out; omega)] at hy
      obtain ⟨rfl, rfl⟩ := Prod.mk.inj hy
      clear hy hz
      go_wp2
      go_ret2
      exact ⟨rfl, hB⟩
theorem gasesE_n {G : List Ga} (h : gasesE G = 0) : 0 < G.length ∧ G.length ≤ 8 ∧ ∀ g ∈ G, gasE g.o g.h = 0 := by
  unfold gasesE at h
  by_cases h0 : G.length = 0
  · rw [if_pos h0] at h; exact absurd h (by decide)
  rw [if_neg h0] at h
  by_cases h8 : 8 < G.length
  · rw [if_pos h8] at h; exact absurd h (by decide)
  rw [if_neg h8] at h
  exact ⟨by omega, by omega, fun g hg => fstI_ok h g hg⟩
set_option maxRecDepth 100000 in
set_option maxHeartbeats 1000000 in
theorem pCheckPlan_any (nm : ByteArray) (s : Int) (G : List Ga) (D : List Le) (A B : Option Addr) (gn gc dn dc N : Nat) (E : Int) (w : World) (hz : nm.size ≤ 9223372036854775807) (hgn : Hid (gn = G.length)) (hgl : gn ≤ 9223372036854775807) (hdn : Hid (dn = D.length)) (hdl : dn ≤ 9223372036854775807) (hG : Hid (SlRows gaV 2 w A G)) (hD : Hid (SlRows leV 3 w B D)) (hE : Hid (plnP nm s G D = (N, E))) :
    Calls Try.prog 69 #[.agg #[.string nm, .int .i64 s, .slice A gn gc, .slice B dn dc]] w fun e w' => e = .returned (.tuple #[.int .i64 N, .int .i64 E]) ∧ Below w.heap.size w w' := by
  have he := hE.out
  unfold plnP at he
  obtain ⟨nb, hnb⟩ : ∃ x, Hid (nameB nm = x) := ⟨_, Lib.hid rfl⟩
  obtain ⟨sb, hsb⟩ : ∃ x, Hid (inB s 400 1100 = x) := ⟨_, Lib.hid rfl⟩
  obtain ⟨ge, hge⟩ : ∃ x, Hid (gasesE G = x) := ⟨_, Lib.hid rfl⟩
  rw [hnb.out, hsb.out, hge.out] at he
  have HE := Lib.hid he
  clear he hE
  go_enter Try.func69, Try.ntmps69
  go_wp2_with fail
  refine (pIsName_any nm nb _ hz hnb).mono ?_
  rintro e x1 ⟨rfl, hb1⟩
  have z1 := hb1.size
  try simp at z1
  obtain ⟨c0, c1, c2, c3⟩ : x1.cell? ⟨w.heap.size, 0, none⟩ = some (.string nm) ∧ x1.cell? ⟨w.heap.size, 1, none⟩ = some (.int .i64 s) ∧ x1.cell? ⟨w.heap.size, 2, none⟩ = some (.slice A gn gc) ∧ x1.cell? ⟨w.heap.size, 3, none⟩ = some (.slice B dn dc) := by refine ⟨?_, ?_, ?_, ?_⟩ <;> (rw [(bcell hb1).1 _ _ (by simp)]; simp [go_sem])
  have hB1 : Below w.heap.size w x1 := (by (repeat (first | (with_reducible refine Below.drew ?_) | (with_reducible refine below_drewN ?_ _) | (with_reducible refine Below.alloc ?_ (by first | omega | (simp; done) | (simp; omega) | (simp at *; omega)) _) | (with_reducible refine Below.setCell ?_ (by first | omega | (simp; done) | (simp; omega) | (simp at *; omega)) _) | (with_reducible exact Below.refl _ _) | (with_reducible assumption) | (with_reducible refine Below.trans ?_ (Below.mono (by assumption) (by first | omega | (simp; done) | (simp; omega) | (simp at *; omega)))))))
  have o1 : w.heap.size < x1.heap.size := by omega
  clear hb1
  cases nb with
  | false =>
    obtain ⟨rfl, rfl⟩ := Prod.mk.inj (show ((0 : Nat), (4 : Int)) = (N, E) from by have := HE.out; simpa using this)
    clear HE
    go_wp2
    go_ret2
    exact ⟨rfl, hB1⟩
  | true =>
  cases sb with
  | false =>
    obtain ⟨rfl, rfl⟩ := Prod.mk.inj (show ((0 : Nat), (2 : Int)) = (N, E) from by have := HE.out; simpa using this)
    clear HE
    go_wp2_with ((go_at_call 55; ((with_reducible refine (pWithin_is _ _ _ _ _ hsb).mono ?_)); rintro e w' ⟨rfl, rfl⟩))
    go_ret2
    exact ⟨rfl, hB1⟩
  | true =>
  go_wp2_with ((go_at_call 55; ((with_reducible refine (pWithin_is _ _ _ _ _ hsb).mono ?_)); rintro e w' ⟨rfl, rfl⟩))
  refine (pCheckGases_any G A gn gc ge _ hgn hgl (Lib.hid (hG.out.below hB1)) hge).mono ?_
  rintro e x2 ⟨rfl, hb2⟩
  have z2 := hb2.size
  obtain ⟨d0, d1, d2, d3⟩ : x2.cell? ⟨w.heap.size, 0, none⟩ = some (.string nm) ∧ x2.cell? ⟨w.heap.size, 1, none⟩ = some (.int .i64 s) ∧ x2.cell? ⟨w.heap.size, 2, none⟩ = some (.slice A gn gc) ∧ x2.cell? ⟨w.heap.size, 3, none⟩ = some (.slice B dn dc) := by refine ⟨?_, ?_, ?_, ?_⟩ <;> (rw [(bcell hb2).1 _ _ o1]; assumption)
  have hB2 : Below w.heap.size w x2 := hB1.trans (hb2.mono hB1.size)
  have o2 : w.heap.size < x2.heap.size := by omega
  clear hb2 c0 c1 c2 c3 o1 z1
  by_cases g0 : ge = 0
  · subst g0
    have hr : Hid (legsE D (gn : Int) = (N, E)) := Lib.hid (by have := HE.out; rw [hgn.out]; simpa using this)
    have g8 := (gasesE_n hge.out).2.1
    clear HE
    go_wp2_with fail
    refine (pCheckLegs_any D B dn dc gn N E _ hdn hdl (by have := hgn.out; omega) (Lib.hid (hD.out.below hB2)) hr).mono ?_
    rintro e x3 ⟨rfl, hb3⟩
    have hB3 : Below w.heap.size w x3 := hB2.trans (hb3.mono hB2.size)
    clear hb3
    go_wp2
    go_ret2
    exact ⟨rfl, hB3⟩
  · have g1 : (ge != 0) = true := by simpa using g0
    obtain ⟨rfl, rfl⟩ := Prod.mk.inj (show ((0 : Nat), ge) = (N, E) from by have := HE.out; simpa [g0] using this)
    clear HE
    go_wp2
    go_ret2
    exact ⟨rfl, hB2⟩
end Go.Proofs.Ytgidmmmdpmophaa
