/- What gas.CheckParts returns. -/
import Derived.Test.YtpagbkbaphjmdaaDoorDep
import Derived.Outline
namespace Go.Proofs.YtpagbkbaphjmdaaDoor
open Go.ChangeShapes Go.WideShapes Go.ChangeAt Go.RowKit
set_option linter.unusedVariables false

/-- A part: oxygen, helium, amount. -/
structure Part where
  o : Int
  h : Int
  a : Int
instance : Inhabited Part := ⟨⟨0, 0, 0⟩⟩
def PartsAt (w : World) (b off : Nat) (P : List Part) : Prop :=
  ∀ k, (hk : k < P.length) → w.cell? ⟨b, off + k * 3, none⟩ = some (.int .i64 (P[k]).o) ∧ w.cell? ⟨b, off + k * 3 + 1, none⟩ = some (.int .i64 (P[k]).h) ∧ w.cell? ⟨b, off + k * 3 + 2, none⟩ = some (.int .i64 (P[k]).a)
theorem PartsAt.below {w w' : World} {b off : Nat} {P : List Part} (h : PartsAt w b off P) (hb : Below w.heap.size w w') (hlt : b < w.heap.size) : PartsAt w' b off P := by
  intro k hk
  obtain ⟨h1, h2, h3⟩ := h k hk
  obtain ⟨hc, _⟩ := bcell hb
  exact ⟨by rw [hc _ _ hlt]; exact h1, by rw [hc _ _ hlt]; exact h2, by rw [hc _ _ hlt]; exact h3⟩
def partE (p : Part) : Int := firE [gasE p.o p.h, rngE p.a 0 1000000000]
def partsE1 : List Part → Int
  | [] => 0
  | p :: r => if partE p = 0 then partsE1 r else partE p
def noneB (P : List Part) : Bool := P.all fun p => p.a == 0
def checkPartsE (P : List Part) : Int := if 12 < P.length then 8 else if partsE1 P = 0 then (if noneB P = true then 11 else 0) else partsE1 P
theorem partsE1_z {P : List Part} (h : ∀ k, (hk : k < P.length) → partE P[k] = 0) : partsE1 P = 0 := by
  induction P with
  | nil => rfl
  | cons p r ih =>
    unfold partsE1
    rw [if_pos (show partE p = 0 from h 0 (by simp))]
    exact ih fun k hk => h (k + 1) (by simpa using hk)
theorem partsE1_at {P : List Part} {k : Nat} (hk : k < P.length) (hz : ∀ j, (hj : j < k) → partE (P[j]'(by omega)) = 0) (hn : partE P[k] ≠ 0) : partsE1 P = partE P[k] := by
  induction P generalizing k with
  | nil => simp at hk
  | cons p r ih =>
    unfold partsE1
    cases k with
    | zero => exact if_neg hn
    | succ k =>
      rw [if_pos (show partE p = 0 from hz 0 (by omega))]
      exact ih (by simpa using hk) (fun j hj => hz (j + 1) (by omega)) hn
theorem noneB_snoc {P : List Part} {k : Nat} (hk : k < P.length) : noneB (P.take (k + 1)) = (noneB (P.take k) && (P[k].a == 0)) := by
  unfold noneB
  rw [List.take_succ_eq_append_getElem hk, List.all_append]
  simp
set_option maxHeartbeats 1000000 in
theorem CheckParts_any (P : List Part) (b off cap : Nat) (w : World) (hl : P.length ≤ 1000) (hlt : b < w.heap.size) (hP : PartsAt w b off P) :
    Calls Tryd.prog 33 #[.slice (some ⟨b, off, none⟩) P.length cap] w fun e w' => e = .returned (.int .i64 (checkPartsE P)) ∧ Below w.heap.size w w' := by
  have HP : Hid (PartsAt w b off P) := hP
  clear hP
  by_cases h12 : 12 < P.length
  · have he : Hid (checkPartsE P = 8) := if_pos h12
    go_enter Tryd.func33, Tryd.ntmps33
    go_wp2
    go_ret
    exact ⟨ret_int he.out.symm, (by (repeat (first | (with_reducible refine Below.drew ?_) | (with_reducible refine below_drewN ?_ _) | (with_reducible refine Below.alloc ?_ (by first | omega | (simp; done) | (simp; omega) | (simp at *; omega)) _) | (with_reducible refine Below.setCell ?_ (by first | omega | (simp; done) | (simp; omega) | (simp at *; omega)) _) | (with_reducible exact Below.refl _ _) | (with_reducible assumption) | (with_reducible refine Below.trans ?_ (Below.mono (by assumption) (by first | omega | (simp; done) | (simp; omega) | (simp at *; omega)))))))⟩
  · have he : Hid (checkPartsE P = if partsE1 P = 0 then (if noneB P = true then 11 else 0) else partsE1 P) := if_neg h12
    go_enter Tryd.func33, Tryd.ntmps33
    go_wp2
    go_loopw [3, 12] (fun e i wr => ∃ k : Nat, k ≤ P.length ∧ i = .int .i64 k ∧ e = .bool (noneB (P.take k)) ∧ Hid (∀ j, (hj : j < k) → (hj' : j < P.length) → partE P[j] = 0) ∧ Below w.heap.size w wr) (fun _ i _ => P.length - (intOf i).toNat)
    case atStart => exact ⟨0, by omega, rfl, by simp [noneB], fun j hj => by omega, Below.refl _ _⟩
    case round =>
      obtain ⟨k, hk, rfl, rfl, hz, hB⟩ := hrel
      by_cases hkl : k < P.length
      · obtain ⟨c0, c1, c2⟩ := HP.out.below hB hlt k hkl
        have hs := Lib.hid (noneB_snoc hkl)
        have hsz := hB.size
        obtain ⟨po, ho⟩ : ∃ x, Hid (P[k].o = x) := ⟨P[k].o, rfl⟩
        obtain ⟨ph, hh⟩ : ∃ x, Hid (P[k].h = x) := ⟨P[k].h, rfl⟩
        obtain ⟨pa, ha⟩ : ∃ x, Hid (P[k].a = x) := ⟨P[k].a, rfl⟩
        rw [ho.out] at c0
        rw [hh.out] at c1
        rw [ha.out] at c2
        have hpe : Hid (partE P[k] = firE [gasE po ph, rngE pa 0 1000000000]) := by unfold partE Hid; rw [ho.out, hh.out, ha.out]
        obtain ⟨eb, heb⟩ : ∃ eb, Hid (noneB (P.take k) = eb) := ⟨_, rfl⟩
        rw [heb.out]
        rcases ez (firE [gasE po ph, rngE pa 0 1000000000]) with ⟨hz0, hzb⟩ | ⟨hz0, hzb⟩
        · have hs2 : Hid (noneB (P.take (k + 1)) = (eb && (pa == 0))) := by have := hs.out; rw [heb.out, ha.out] at this; exact this
          have hz2 : Hid (∀ j, (hj : j < k + 1) → (hj' : j < P.length) → partE P[j] = 0) := fun j hj hj' => by
            by_cases e : j = k
            · subst e; rw [hpe.out]; exact hz0.out
            · exact hz.out j (by omega) hj'
          clear hs hz hz0
          rcases Int.decEq pa 0 with hp | hp
          · have hp1 : (pa == 0) = false := by simpa using hp
            clear hp
            rw [hp1] at hs2
            cases eb
            all_goals
              go_wp2
              go_region_held3 (fun w' => w'.cell? ⟨wr.heap.size, 0, none⟩ = some (.int .i64 po) ∧ w'.cell? ⟨wr.heap.size, 1, none⟩ = some (.int .i64 ph) ∧ w'.cell? ⟨wr.heap.size, 2, none⟩ = some (.int .i64 pa)) (simp [go_sem, World.cell?_alloc_past])
                (first
                  | (go_at_call 10; ((with_reducible refine (CheckGas_any _ _ _).mono ?_)); rintro e w' ⟨rfl, rfl⟩)
                  | (go_at_call 42; ((with_reducible refine (checkAmount_any _ _).mono ?_)); rintro e w' ⟨rfl, rfl⟩)
                  | (go_at_call 25; ((with_reducible refine (firstOf2c (gasE po ph) (rngE pa 0 1000000000) _ _ (by simp [go_sem]) (by simp [go_sem])).mono ?_)); rintro e w' ⟨rfl, rfl⟩))
              go_wp2
              go_roundw
              case rel => exact ⟨k + 1, by omega, by go_num, by rw [hs2.out]; rfl, hz2, (by (repeat (first | (with_reducible refine Below.drew ?_) | (with_reducible refine below_drewN ?_ _) | (with_reducible refine Below.alloc ?_ (by first | omega | (simp; done) | (simp; omega) | (simp at *; omega)) _) | (with_reducible refine Below.setCell ?_ (by first | omega | (simp; done) | (simp; omega) | (simp at *; omega)) _) | (with_reducible exact Below.refl _ _) | (with_reducible assumption) | (with_reducible refine Below.trans ?_ (Below.mono (by assumption) (by first | omega | (simp; done) | (simp; omega) | (simp at *; omega)))))))⟩
              case measure => simp [intOf]; omega
          · have hp1 : (pa == 0) = true := by simpa using hp
            clear hp
            rw [hp1] at hs2
            cases eb
            all_goals
              go_wp2
              go_region_held3 (fun w' => w'.cell? ⟨wr.heap.size, 0, none⟩ = some (.int .i64 po) ∧ w'.cell? ⟨wr.heap.size, 1, none⟩ = some (.int .i64 ph) ∧ w'.cell? ⟨wr.heap.size, 2, none⟩ = some (.int .i64 pa)) (simp [go_sem, World.cell?_alloc_past])
                (first
                  | (go_at_call 10; ((with_reducible refine (CheckGas_any _ _ _).mono ?_)); rintro e w' ⟨rfl, rfl⟩)
                  | (go_at_call 42; ((with_reducible refine (checkAmount_any _ _).mono ?_)); rintro e w' ⟨rfl, rfl⟩)
                  | (go_at_call 25; ((with_reducible refine (firstOf2c (gasE po ph) (rngE pa 0 1000000000) _ _ (by simp [go_sem]) (by simp [go_sem])).mono ?_)); rintro e w' ⟨rfl, rfl⟩))
              go_wp2
              go_roundw
              case rel => exact ⟨k + 1, by omega, by go_num, by rw [hs2.out]; rfl, hz2, (by (repeat (first | (with_reducible refine Below.drew ?_) | (with_reducible refine below_drewN ?_ _) | (with_reducible refine Below.alloc ?_ (by first | omega | (simp; done) | (simp; omega) | (simp at *; omega)) _) | (with_reducible refine Below.setCell ?_ (by first | omega | (simp; done) | (simp; omega) | (simp at *; omega)) _) | (with_reducible exact Below.refl _ _) | (with_reducible assumption) | (with_reducible refine Below.trans ?_ (Below.mono (by assumption) (by first | omega | (simp; done) | (simp; omega) | (simp at *; omega)))))))⟩
              case measure => simp [intOf]; omega
        · have hr : Hid (checkPartsE P = firE [gasE po ph, rngE pa 0 1000000000]) := by
            have h1 : partE P[k] ≠ 0 := by rw [hpe.out]; exact hz0.out
            have h2 := partsE1_at hkl (fun j hj => hz.out j hj (by omega)) h1
            have := he.out
            rw [h2, if_neg h1, hpe.out] at this
            exact this
          clear he hs hz
          go_wp2
          go_region_held3 (fun w' => w'.cell? ⟨wr.heap.size, 0, none⟩ = some (.int .i64 po) ∧ w'.cell? ⟨wr.heap.size, 1, none⟩ = some (.int .i64 ph) ∧ w'.cell? ⟨wr.heap.size, 2, none⟩ = some (.int .i64 pa)) (simp [go_sem, World.cell?_alloc_past])
            (first
              | (go_at_call 10; ((with_reducible refine (CheckGas_any _ _ _).mono ?_)); rintro e w' ⟨rfl, rfl⟩)
              | (go_at_call 42; ((with_reducible refine (checkAmount_any _ _).mono ?_)); rintro e w' ⟨rfl, rfl⟩)
              | (go_at_call 25; ((with_reducible refine (firstOf2c (gasE po ph) (rngE pa 0 1000000000) _ _ (by simp [go_sem]) (by simp [go_sem])).mono ?_)); rintro e w' ⟨rfl, rfl⟩))
          go_wp2
          go_ret
          exact ⟨ret_int hr.out.symm, (by (repeat (first | (with_reducible refine Below.drew ?_) | (with_reducible refine below_drewN ?_ _) | (with_reducible refine Below.alloc ?_ (by first | omega | (simp; done) | (simp; omega) | (simp at *; omega)) _) | (with_reducible refine Below.setCell ?_ (by first | omega | (simp; done) | (simp; omega) | (simp at *; omega)) _) | (with_reducible exact Below.refl _ _) | (with_reducible assumption) | (with_reducible refine Below.trans ?_ (Below.mono (by assumption) (by first | omega | (simp; done) | (simp; omega) | (simp at *; omega)))))))⟩
      · have hkk : k = P.length := by omega
        have h1 : partsE1 P = 0 := partsE1_z fun j hj => hz.out j (by omega) hj
        have h2 : noneB (P.take k) = noneB P := by rw [hkk, List.take_length]
        rw [h2]
        have h3 := he.out
        rw [if_pos h1] at h3
        clear h1 h2 hz he hkk
        cases hn : noneB P
        · have hr : Hid (checkPartsE P = 0) := by rw [hn] at h3; exact h3
          clear h3 hn
          go_wp2
          go_ret
          exact ⟨ret_int hr.out.symm, (by (repeat (first | (with_reducible refine Below.drew ?_) | (with_reducible refine below_drewN ?_ _) | (with_reducible refine Below.alloc ?_ (by first | omega | (simp; done) | (simp; omega) | (simp at *; omega)) _) | (with_reducible refine Below.setCell ?_ (by first | omega | (simp; done) | (simp; omega) | (simp at *; omega)) _) | (with_reducible exact Below.refl _ _) | (with_reducible assumption) | (with_reducible refine Below.trans ?_ (Below.mono (by assumption) (by first | omega | (simp; done) | (simp; omega) | (simp at *; omega)))))))⟩
        · have hr : Hid (checkPartsE P = 11) := by rw [hn] at h3; exact h3
          clear h3 hn
          go_wp2
          go_ret
          exact ⟨ret_int hr.out.symm, (by (repeat (first | (with_reducible refine Below.drew ?_) | (with_reducible refine below_drewN ?_ _) | (with_reducible refine Below.alloc ?_ (by first | omega | (simp; done) | (simp; omega) | (simp at *; omega)) _) | (with_reducible refine Below.setCell ?_ (by first | omega | (simp; done) | (simp; omega) | (simp at *; omega)) _) | (with_reducible exact Below.refl _ _) | (with_reducible assumption) | (with_reducible refine Below.trans ?_ (Below.mono (by assumption) (by first | omega | (simp; done) | (simp; omega) | (simp at *; omega)))))))⟩
end Go.Proofs.YtpagbkbaphjmdaaDoor
