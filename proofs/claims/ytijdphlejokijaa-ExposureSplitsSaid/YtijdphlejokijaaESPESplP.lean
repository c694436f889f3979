import Derived.Test.YtijdphlejokijaaESPESplM
import Derived.Outline
namespace Go.Proofs.Ytijdphlejokijaa
set_option linter.unusedVariables false
set_option linter.unusedSimpArgs false
theorem legsGo_all : ∀ (D : List Le) (ng e : Int) (j : Nat), (∀ x ∈ D, 1 ≤ x.s ∧ x.s ≤ 1000000 ∧ 0 ≤ x.d ∧ x.d ≤ 30000 ∧ 0 ≤ x.g ∧ x.g ≤ ng - 1) → (∀ k, e + secs (D.take k) ≤ 1000000) → legsGo D ng e j = (0, 0)
  | [], _, _, _, _, _ => rfl
  | x :: l, ng, e, j, h, hs => by
    obtain ⟨h1, h2, h3, h4, h5, h6⟩ := h x (by simp)
    have e1 : inB x.s 1 1000000 = true := inB_true h1 h2
    have e2 : inB x.d 0 30000 = true := inB_true h3 h4
    have e3 : inB x.g 0 (ng - 1) = true := inB_true h5 h6
    have hs1 := hs 1
    simp only [List.take_succ_cons, List.take_zero, secs] at hs1
    unfold legsGo
    rw [e1, e2, if_neg (by simp), e3, if_neg (by simp), if_neg (by omega)]
    refine legsGo_all l ng (e + x.s) (j + 1) (fun y hy => h y (by simp [hy])) (fun k => ?_)
    have := hs (k + 1)
    simp only [List.take_succ_cons, secs] at this
    omega
theorem gasesE_all {G : List Ga} (h0 : 0 < G.length) (h8 : G.length ≤ 8) (h : ∀ g ∈ G, gasE g.o g.h = 0) : gasesE G = 0 := by
  unfold gasesE
  rw [if_neg (by omega), if_neg (by omega)]
  exact fstI_all fun j hj => h _ (List.getElem_mem hj)
/-- A right plan has no error. -/
theorem pln_of_ok {nm : ByteArray} {s : Int} {G : List Ga} {D : List Le} (h : PlnOk nm s G D) : plnP nm s G D = (0, 0) := by
  unfold plnP
  rw [h.nm, if_neg (by simp), inB_true h.su.1 h.su.2, if_neg (by simp), gasesE_all h.g0 h.g8 h.ga, if_neg (by simp)]
  unfold legsE
  rw [if_neg (by have := h.d6; omega)]
  refine legsGo_all D _ 0 0 h.le (fun k => ?_)
  have := (h.sec k).2
  unfold secT at this
  omega
theorem secs_nonneg : ∀ {D : List Le}, (∀ x ∈ D, 0 ≤ x.s) → 0 ≤ secs D
  | [], _ => by simp [secs]
  | x :: l, h => by
    have := secs_nonneg (D := l) (fun y hy => h y (by simp [hy]))
    have := h x (by simp)
    simp only [secs]
    omega
theorem secs_take {D : List Le} (h : ∀ x ∈ D, 0 ≤ x.s) (k : Nat) : 0 ≤ secs (D.take k) ∧ secs (D.take k) ≤ secs D := by
  have h1 := secs_nonneg (D := D.take k) (fun x hx => h x (List.mem_of_mem_take hx))
  have h2 := secs_nonneg (D := D.drop k) (fun x hx => h x (List.mem_of_mem_drop hx))
  have h3 := secs_app (D.take k) (D.drop k)
  rw [List.take_append_drop] at h3
  omega
/-- The legs of the divided plan. -/
def divL (D : List Le) (k : Nat) (q f z d g : Int) : List Le := D.take k ++ (⟨q, f, g⟩ :: ⟨z, d, g⟩ :: D.drop (k + 1))
theorem divL_len {D : List Le} {k : Nat} (hk : k < D.length) (q f z d g : Int) : (divL D k q f z d g).length = D.length + 1 := by
  unfold divL
  simp only [List.length_append, List.length_take, List.length_cons, List.length_drop]
  omega
theorem divL_0 {D : List Le} {k : Nat} (hk : k < D.length) (q f z d g : Int) : (divL D k q f z d g).getD k default = ⟨q, f, g⟩ := by
  unfold divL
  rw [List.getD_eq_getElem?_getD, List.getElem?_append_right (by rw [List.length_take]; omega), List.length_take, show k - min k D.length = 0 by omega]
  rfl
theorem divL_1 {D : List Le} {k : Nat} (hk : k < D.length) (q f z d g : Int) : (divL D k q f z d g).getD (k + 1) default = ⟨z, d, g⟩ := by
  unfold divL
  rw [List.getD_eq_getElem?_getD, List.getElem?_append_right (by rw [List.length_take]; omega), List.length_take, show k + 1 - min k D.length = 1 by omega]
  rfl
theorem divL_lo {D : List Le} {k j : Nat} (hk : k < D.length) (hj : j < k) (q f z d g : Int) : (divL D k q f z d g).getD j default = D.getD j default := by
  unfold divL
  rw [List.getD_eq_getElem?_getD, List.getElem?_append_left (by rw [List.length_take]; omega), List.getElem?_take, if_pos hj, ← List.getD_eq_getElem?_getD]
theorem divL_ptd {D : List Le} {k : Nat} (hk : k < D.length) (q f z d g : Int) : (ptK (divL D k q f z d g) k).d = (ptK D k).d := by
  unfold ptK
  by_cases e : k = 0
  · rw [if_pos e, if_pos e]
  · rw [if_neg e, if_neg e, divL_lo hk (by omega)]
/-- The divided plan is right. -/
theorem div_ok {nm : ByteArray} {s : Int} {G : List Ga} {D : List Le} (h : PlnOk nm s G D) {k : Nat} (hk : k < D.length) {q f z : Int} (q1 : 1 ≤ q) (z1 : 1 ≤ z) (hs : q + z = D[k].s) (f0 : 0 ≤ f) (f1 : f ≤ 30000) (h6 : D.length + 1 ≤ 60) : PlnOk nm s G (divL D k q f z D[k].d D[k].g) := by
  obtain ⟨a1, a2, a3, a4, a5, a6⟩ := h.le _ (List.getElem_mem hk)
  have hm : ∀ x ∈ divL D k q f z D[k].d D[k].g, 1 ≤ x.s ∧ x.s ≤ 1000000 ∧ 0 ≤ x.d ∧ x.d ≤ 30000 ∧ 0 ≤ x.g ∧ x.g ≤ (G.length : Int) - 1 := by
    intro x hx
    unfold divL at hx
    rcases List.mem_append.1 hx with hx | hx
    · exact h.le _ (List.mem_of_mem_take hx)
    · rcases List.mem_cons.1 hx with rfl | hx
      · exact ⟨q1, by show q ≤ _; omega, f0, f1, a5, a6⟩
      · rcases List.mem_cons.1 hx with rfl | hx
        · exact ⟨z1, by show z ≤ _; omega, a3, a4, a5, a6⟩
        · exact h.le _ (List.mem_of_mem_drop hx)
  have htot : secs (divL D k q f z D[k].d D[k].g) = secs D := by
    unfold divL
    rw [secs_app]
    simp only [secs]
    have h1 := secs_app (D.take k) (D.drop k)
    rw [List.take_append_drop, List.drop_eq_getElem_cons hk] at h1
    simp only [secs] at h1
    omega
  have hall : secs D ≤ 1000000 := by
    have := (h.sec D.length).2
    unfold secT at this
    rw [List.take_length] at this
    exact this
  refine ⟨h.nm, h.su, h.g0, h.g8, h.ga, by rw [divL_len hk]; exact h6, hm, fun j => ?_⟩
  have := secs_take (D := divL D k q f z D[k].d D[k].g) (fun x hx => by have := (hm x hx).1; omega) j
  unfold secT
  omega
theorem div_leg {s : Int} {G : List Ga} {D : List Le} {k : Nat} (hk : k < D.length) (q f z : Int) :
    (legK s G (divL D k q f z D[k].d D[k].g) k).s = q ∧ (legK s G (divL D k q f z D[k].d D[k].g) k).bd = (legK s G D k).bd ∧ (legK s G (divL D k q f z D[k].d D[k].g) k).d = f ∧ (legK s G (divL D k q f z D[k].d D[k].g) k).su = (legK s G D k).su ∧ (legK s G (divL D k q f z D[k].d D[k].g) k).o = (legK s G D k).o ∧
    (legK s G (divL D k q f z D[k].d D[k].g) (k + 1)).s = z ∧ (legK s G (divL D k q f z D[k].d D[k].g) (k + 1)).bd = f ∧ (legK s G (divL D k q f z D[k].d D[k].g) (k + 1)).d = (legK s G D k).d ∧ (legK s G (divL D k q f z D[k].d D[k].g) (k + 1)).su = (legK s G D k).su ∧ (legK s G (divL D k q f z D[k].d D[k].g) (k + 1)).o = (legK s G D k).o := by
  have e0 := divL_0 hk q f z D[k].d D[k].g
  have e1 := divL_1 hk q f z D[k].d D[k].g
  have e2 := divL_ptd hk q f z D[k].d D[k].g
  have e3 := getD_leE hk
  have e4 : (ptK (divL D k q f z D[k].d D[k].g) (k + 1)).d = f := by
    unfold ptK
    rw [if_neg (by omega), Nat.add_sub_cancel, e0]
  unfold legK
  rw [e0, e1, e2, e3, e4]
  exact ⟨rfl, rfl, rfl, rfl, rfl, rfl, rfl, rfl, rfl, rfl⟩
end Go.Proofs.Ytijdphlejokijaa
