/- What the specification's reading of a text returns: the gas whose text it is, or that it is none. -/
import Derived.Test.YtpagbkbaphjmdaaDoorRefParseG
import Derived.Test.YtpagbkbaphjmdaaDoorRefParseN3
import Derived.Test.YtpagbkbaphjmdaaDoorRefParseN4
import Derived.Test.YtpagbkbaphjmdaaDoorRefParseT3
import Derived.Test.YtpagbkbaphjmdaaDoorRefParseT4
import Derived.Test.YtpagbkbaphjmdaaDoorRefParseM
namespace Go.Proofs.YtpagbkbaphjmdaaDoor
open Go.ChangeShapes Go.WideShapes Go.ChangeAt Go.RowKit
set_option linter.unusedVariables false
set_option linter.unusedSimpArgs false

theorem ext_size (S : ByteArray) (a b : Nat) : (S.extract a b).size ≤ S.size := by
  rw [ByteArray.size_extract]; omega
theorem cutSt_sz (S : ByteArray) : ∀ k, ∀ x ∈ (cutSt S k).1, x.size ≤ S.size
  | 0, x, hx => by simp [cutSt] at hx
  | k + 1, x, hx => by
    unfold cutSt at hx
    split at hx
    · simp at hx
      rcases hx with hx | rfl
      · exact cutSt_sz S k x hx
      · exact ext_size _ _ _
    · exact cutSt_sz S k x hx
theorem cutAll_sz (S : ByteArray) : ∀ x ∈ cutAll S, x.size ≤ S.size := by
  intro x hx
  unfold cutAll at hx
  simp at hx
  rcases hx with hx | rfl
  · exact cutSt_sz S _ x hx
  · exact ext_size _ _ _
theorem cutAll_ne (S : ByteArray) : cutAll S ≠ [] := by unfold cutAll; simp
theorem eqL (S : ByteArray) (l : List UInt8) : (S.toList == l) = true ↔ S = ⟨l.toArray⟩ := by
  rw [Lib.toList_data]
  obtain ⟨⟨x⟩⟩ := S
  constructor
  · intro h
    have : x = l := by simpa using h
    rw [this]
  · intro h
    have e : (⟨⟨x⟩⟩ : ByteArray).data.toList = (⟨l.toArray⟩ : ByteArray).data.toList := by rw [h]
    have e2 : x = l := e
    simp [e2]
theorem neL2 {S : ByteArray} {l : List UInt8} (h : ¬ S = ⟨l.toArray⟩) : (S.toList == l) = false := by
  cases e : (S.toList == l)
  · rfl
  · exact absurd ((eqL S l).1 e) h
/-- A text of no gas is refused. -/
theorem refParse_none (S : ByteArray) (w : World) (hl : S.size ≤ 40) (HN : NoGas S) :
    Calls Tryd.prog 8 #[.string S] w fun e w' => e = .returned (.tuple #[.agg #[.int .i64 0, .int .i64 0], .int .i64 7]) ∧ Below w.heap.size w w' := by
  obtain ⟨m1, m2, m3⟩ := HN.names
  have a1 : (S.toList == [97, 105, 114]) = false := neL2 m1
  have a2 : (S.toList == [111, 120, 121, 103, 101, 110]) = false := neL2 m2
  have a3 : (S.toList == [104, 101, 108, 105, 117, 109]) = false := neL2 m3
  by_cases z3 : S.size < 3
  · exact refParse_short S w hl a1 a2 a3 z3
  have tz : ∀ a b, (S.extract a b).size ≤ 1000 := fun a b => Nat.le_trans (ext_size S a b) (by omega)
  have pz : ∀ a b, ∀ x ∈ cutAll (S.extract a b), x.size ≤ 1000 := fun a b x hx => Nat.le_trans (cutAll_sz _ x hx) (tz a b)
  by_cases z4 : 3 < S.size
  · cases g1 : ((S.extract 0 3).toList == [103, 97, 115])
    · cases g2 : ((S.extract 0 2).toList == [110, 120])
      · cases g3 : ((S.extract 0 2).toList == [116, 120])
        · exact refParse_other4 S w hl a1 a2 a3 z4 g1 g2 g3
        · have hp := pz 2 S.size
          match hc : cutAll (S.extract 2 S.size), hp with
          | [], _ => exact absurd hc (cutAll_ne _)
          | [x], hp => exact refParse_none_t41 S w hl a1 a2 a3 z4 g1 g2 g3 _ x x rfl (tz _ _) hc (hp x (by simp)) (hp x (by simp)) HN
          | [x, y], hp => exact refParse_none_t42 S w hl a1 a2 a3 z4 g1 g2 g3 _ x y rfl (tz _ _) hc (hp x (by simp)) (hp y (by simp)) HN
          | x :: y :: z :: r, _ => exact refParse_many_t4 S w hl a1 a2 a3 z4 g1 g2 g3 _ _ rfl (tz _ _) hc (by simp)
      · have hp := pz 2 S.size
        match hc : cutAll (S.extract 2 S.size), hp with
        | [], _ => exact absurd hc (cutAll_ne _)
        | [x], hp => exact refParse_none_n41 S w hl a1 a2 a3 z4 g1 g2 _ x x rfl (tz _ _) hc (hp x (by simp)) (hp x (by simp)) HN
        | [x, y], hp => exact refParse_none_n42 S w hl a1 a2 a3 z4 g1 g2 _ x y rfl (tz _ _) hc (hp x (by simp)) (hp y (by simp)) HN
        | x :: y :: z :: r, _ => exact refParse_many_n4 S w hl a1 a2 a3 z4 g1 g2 _ _ rfl (tz _ _) hc (by simp)
    · have hp := pz 3 S.size
      match hc : cutAll (S.extract 3 S.size), hp with
      | [], _ => exact absurd hc (cutAll_ne _)
      | [x], hp => exact refParse_none_g1 S w hl a1 a2 a3 z4 g1 _ x x rfl (tz _ _) hc (hp x (by simp)) (hp x (by simp)) HN
      | [x, y], hp => exact refParse_none_g2 S w hl a1 a2 a3 z4 g1 _ x y rfl (tz _ _) hc (hp x (by simp)) (hp y (by simp)) HN
      | x :: y :: z :: r, _ => exact refParse_many_g S w hl a1 a2 a3 z4 g1 _ _ rfl (tz _ _) hc (by simp)
  · have z5 : S.size = 3 := by omega
    cases g2 : ((S.extract 0 2).toList == [110, 120])
    · cases g3 : ((S.extract 0 2).toList == [116, 120])
      · exact refParse_other3 S w hl a1 a2 a3 z5 g2 g3
      · have hp := pz 2 3
        match hc : cutAll (S.extract 2 3), hp with
        | [], _ => exact absurd hc (cutAll_ne _)
        | [x], hp => exact refParse_none_t31 S w hl a1 a2 a3 z5 g2 g3 _ x x rfl (tz _ _) hc (hp x (by simp)) (hp x (by simp)) HN
        | [x, y], hp => exact refParse_none_t32 S w hl a1 a2 a3 z5 g2 g3 _ x y rfl (tz _ _) hc (hp x (by simp)) (hp y (by simp)) HN
        | x :: y :: z :: r, _ => exact refParse_many_t3 S w hl a1 a2 a3 z5 g2 g3 _ _ rfl (tz _ _) hc (by simp)
    · have hp := pz 2 3
      match hc : cutAll (S.extract 2 3), hp with
      | [], _ => exact absurd hc (cutAll_ne _)
      | [x], hp => exact refParse_none_n31 S w hl a1 a2 a3 z5 g2 _ x x rfl (tz _ _) hc (hp x (by simp)) (hp x (by simp)) HN
      | [x, y], hp => exact refParse_none_n32 S w hl a1 a2 a3 z5 g2 _ x y rfl (tz _ _) hc (hp x (by simp)) (hp y (by simp)) HN
      | x :: y :: z :: r, _ => exact refParse_many_n3 S w hl a1 a2 a3 z5 g2 _ _ rfl (tz _ _) hc (by simp)
/-! ### The text of a gas -/
theorem ext_list (l : List UInt8) (a b : Nat) : (⟨l.toArray⟩ : ByteArray).extract a b = ⟨((l.drop a).take (b - a)).toArray⟩ := by
  have h := Lib.extract_toList (⟨l.toArray⟩ : ByteArray) a b
  refine (eqL _ _).1 ?_
  rw [h]
  simp
theorem at_list (l : List UInt8) {k : Nat} {hk : k < (⟨l.toArray⟩ : ByteArray).size} {hk' : k < l.length} : (⟨l.toArray⟩ : ByteArray)[k] = l[k] := rfl
theorem cutSt_pre (l : List UInt8) : ∀ k, k ≤ l.length → (∀ j, (hj : j < k) → (hj' : j < l.length) → ¬ l[j] = 47) → cutSt ⟨l.toArray⟩ k = ([], 0)
  | 0, _, _ => rfl
  | k + 1, hk, h => by
    have ih := cutSt_pre l k (by omega) (fun j hj hj' => h j (by omega) hj')
    have hn := h k (by omega) (by omega)
    rw [cutSt, if_neg, ih]
    show ¬ l[k]? = some 47
    rw [List.getElem?_eq_getElem (by omega)]
    intro e
    exact hn (Option.some.inj e)
theorem cutAll_one (a : List UInt8) (h : (47 : UInt8) ∉ a) : cutAll ⟨a.toArray⟩ = [⟨a.toArray⟩] := by
  unfold cutAll
  have hs : (⟨a.toArray⟩ : ByteArray).size = a.length := by show a.toArray.size = _; simp
  rw [hs, cutSt_pre a a.length (Nat.le_refl _) (fun j hj hj' e => h (by rw [← e]; exact List.getElem_mem hj'))]
  rw [ext_list]
  simp
theorem cutSt_post (a b : List UInt8) (ha : (47 : UInt8) ∉ a) (hb : (47 : UInt8) ∉ b) : ∀ j, j ≤ b.length → cutSt ⟨(a ++ 47 :: b).toArray⟩ (a.length + 1 + j) = ([⟨a.toArray⟩], a.length + 1)
  | 0, _ => by
    have h0 := cutSt_pre (a ++ 47 :: b) a.length (by simp) (fun j hj hj' e => ha (by rw [List.getElem_append_left hj] at e; rw [← e]; exact List.getElem_mem hj))
    show cutSt _ (a.length + 1) = _
    rw [cutSt, if_pos, h0]
    · show ([] ++ [_], _) = _
      rw [ext_list]
      simp
    · show (a ++ 47 :: b)[a.length]? = some 47
      simp
  | j + 1, hj => by
    have ih := cutSt_post a b ha hb j (by omega)
    show cutSt _ (a.length + 1 + j + 1) = _
    rw [cutSt, if_neg, ih]
    show ¬ (a ++ 47 :: b)[a.length + 1 + j]? = some 47
    rw [List.getElem?_append_right (by omega), show a.length + 1 + j - a.length = j + 1 by omega, List.getElem?_cons_succ, List.getElem?_eq_getElem (by omega)]
    intro e
    exact hb (by rw [← Option.some.inj e]; exact List.getElem_mem (by omega))
theorem cutAll_two (a b : List UInt8) (ha : (47 : UInt8) ∉ a) (hb : (47 : UInt8) ∉ b) : cutAll ⟨(a ++ 47 :: b).toArray⟩ = [⟨a.toArray⟩, ⟨b.toArray⟩] := by
  unfold cutAll
  have hs : (⟨(a ++ 47 :: b).toArray⟩ : ByteArray).size = a.length + 1 + b.length := by show (a ++ 47 :: b).toArray.size = _; simp; omega
  rw [hs, cutSt_post a b ha hb b.length (Nat.le_refl _)]
  show [_] ++ [_] = _
  rw [ext_list]
  simp
theorem dec_fin2 : ∀ k : Fin 1001, (∀ c ∈ Lib.decDigits k.1, 48 ≤ c.toNat ∧ c.toNat ≤ 57) ∧ ((Lib.decDigits k.1).head? = some 48 → (Lib.decDigits k.1).length = 1) ∧ valD (Lib.decDigits k.1) = k.1 := by decide +kernel
theorem baseNumber_dec (n : Int) (w : World) (h0 : 0 ≤ n) (h1 : n ≤ 1000) :
    Calls Tryd.prog 21 #[.string ⟨(dec n).toArray⟩, .int .i64 4] w fun e w' => e = .returned (.tuple #[.int .i64 n, .bool true]) ∧ Below w.heap.size w w' := by
  obtain ⟨l1, l2, l3, l4⟩ := dec_ok h0 h1
  obtain ⟨f1, f2, f3⟩ := dec_fin2 ⟨n.toNat, by omega⟩
  have hs : (⟨(dec n).toArray⟩ : ByteArray).size = (dec n).length := by show (dec n).toArray.size = _; simp
  have z : 0 < (⟨(dec n).toArray⟩ : ByteArray).size := by omega
  have hv : valD (⟨(dec n).toArray⟩ : ByteArray).data.toList = n := by
    show valD (Lib.decDigits n.toNat) = n
    rw [f3]
    show ((n.toNat : Nat) : Int) = n
    omega
  have hD : ∀ j, (hj : j < (⟨(dec n).toArray⟩ : ByteArray).size) → 48 ≤ ((⟨(dec n).toArray⟩ : ByteArray)[j]).toNat ∧ ((⟨(dec n).toArray⟩ : ByteArray)[j]).toNat ≤ 57 := fun j hj => f1 _ (List.getElem_mem (l := dec n) (by omega))
  have h45 : ¬ ((⟨(dec n).toArray⟩ : ByteArray)[0]).toNat = 45 := by have := hD 0 z; omega
  by_cases h48 : ((⟨(dec n).toArray⟩ : ByteArray)[0]).toNat = 48
  · have hh : (Lib.decDigits n.toNat).head? = some 48 := by
      have hl0 : 0 < (dec n).length := by omega
      have e : (dec n)[0] = 48 := UInt8.toNat_inj.1 h48
      show (dec n).head? = some 48
      rw [List.head?_eq_getElem?, List.getElem?_eq_getElem hl0, e]
    have h := baseNumber_y ⟨(dec n).toArray⟩ w (by omega) z _ rfl hD (by rw [hs]; exact f2 hh) h48
    rw [hv] at h
    exact h
  · have h := baseNumber_x ⟨(dec n).toArray⟩ w (by omega) z _ rfl hD (by omega) h45 h48
    rw [hv] at h
    exact h
theorem refParse_fmt (o h : Int) (S : ByteArray) (w : World) (hg : gasE o h = 0) (hS : Hid (S = ⟨(fmtL o h).toArray⟩)) :
    Calls Tryd.prog 8 #[.string S] w fun e w' => e = .returned (.tuple #[.agg #[.int .i64 o, .int .i64 h], .int .i64 0]) ∧ Below w.heap.size w w' := by
  obtain ⟨o0, o1, h0, h1, hs⟩ := gasE_z hg
  obtain ⟨b10, b11, b12, b13⟩ := dec_ok o0 o1
  obtain ⟨b20, b21, b22, b23⟩ := dec_ok h0 h1
  obtain ⟨b30, b31, b32, b33⟩ := dec_ok (n := o / 10) (by omega) (by omega)
  obtain ⟨b40, b41, b42, b43⟩ := dec_ok (n := h / 10) (by omega) (by omega)
  have HS := hS.out
  unfold fmtL at HS
  have sz : ∀ l : List UInt8, (⟨l.toArray⟩ : ByteArray).size = l.length := fun l => by show l.toArray.size = _; simp
  split at HS
  · rename_i c; obtain ⟨rfl, rfl⟩ := c; subst HS; exact refParse_yes_eAir _ w (by decide) ((eqL _ _).2 rfl)
  split at HS
  · rename_i _ c; obtain ⟨rfl, rfl⟩ := c; subst HS; exact refParse_yes_eOxy _ w (by decide) (neL2 (nameNe (by decide))) ((eqL _ _).2 rfl)
  split at HS
  · rename_i _ _ c; obtain ⟨rfl, rfl⟩ := c; subst HS; exact refParse_yes_eHel _ w (by decide) (neL2 (nameNe (by decide))) (neL2 (nameNe (by decide))) ((eqL _ _).2 rfl)
  rename_i c1 c2 c3
  have ne : ∀ (l k : List UInt8), S = ⟨l.toArray⟩ → ¬ l.head? = k.head? → (S.toList == k) = false := fun l k e hne => neL2 fun he => hne (by
    have h1 : (⟨l.toArray⟩ : ByteArray).data.toList = (⟨k.toArray⟩ : ByteArray).data.toList := by rw [← e, he]
    have h2 : l = k := h1
    rw [h2])
  split at HS
  · have e : S = ⟨([103, 97, 115] ++ (dec o ++ 47 :: dec h)).toArray⟩ := by rw [HS]; simp
    have ez : S.size = 3 + ((dec o).length + 1 + (dec h).length) := by rw [e, sz]; simp; omega
    refine refParse_yes_g S w (by omega) (ne _ _ e (by simp)) (ne _ _ e (by simp)) (ne _ _ e (by simp)) (by omega) ((eqL _ _).2 (by rw [e, ext_list]; simp)) ⟨(dec o ++ 47 :: dec h).toArray⟩ ⟨(dec o).toArray⟩ ⟨(dec h).toArray⟩ o h ?_ (by rw [sz]; simp; omega) (cutAll_two _ _ b12 b22) o (fun w => baseNumber_dec o w o0 o1) (IntWalk.i64_in _ (by omega)) (IntWalk.wrap64_in _ (by omega)) h (fun w => baseNumber_dec h w h0 h1) (IntWalk.i64_in _ (by omega)) (IntWalk.wrap64_in _ (by omega)) hg hS
    rw [ez, e, ext_list]
    congr 2
    rw [List.take_of_length_le (by simp; omega)]
    simp
  rename_i c
  split at HS
  · rename_i c5
    subst c5
    have e : S = ⟨([110, 120] ++ dec (o / 10)).toArray⟩ := by rw [HS]
    have ez : S.size = 2 + (dec (o / 10)).length := by rw [e, sz]; simp; omega
    have hx : S.extract 2 S.size = ⟨(dec (o / 10)).toArray⟩ := by
      rw [ez, e, ext_list]
      congr 2
      rw [List.take_of_length_le (by simp)]
      simp
    have ww : 10 * (o / 10) = o := by omega
    by_cases z : S.size = 3
    · exact refParse_yes_n3 S w (by omega) (ne _ _ e (by simp)) (ne _ _ e (by simp)) (ne _ _ e (by simp)) z ((eqL _ _).2 (by rw [e, ext_list]; simp)) _ ⟨(dec (o / 10)).toArray⟩ ⟨#[]⟩ o 0 (by rw [← hx, z]) (by rw [sz]; omega) (cutAll_one _ b32) (o / 10) (fun w => baseNumber_dec (o / 10) w (by omega) (by omega)) (by rw [ww]; exact IntWalk.i64_in _ (by omega)) (by rw [ww]; exact IntWalk.wrap64_in _ (by omega)) hg hS
    · exact refParse_yes_n4 S w (by omega) (ne _ _ e (by simp)) (ne _ _ e (by simp)) (ne _ _ e (by simp)) (by omega) (neL2 (by
        rw [e, ext_list]
        intro he
        have h1 := congrArg (fun s : ByteArray => s.data.toList.head?) he
        simp at h1)) ((eqL _ _).2 (by rw [e, ext_list]; simp)) _ ⟨(dec (o / 10)).toArray⟩ ⟨#[]⟩ o 0 hx (by rw [sz]; omega) (cutAll_one _ b32) (o / 10) (fun w => baseNumber_dec (o / 10) w (by omega) (by omega)) (by rw [ww]; exact IntWalk.i64_in _ (by omega)) (by rw [ww]; exact IntWalk.wrap64_in _ (by omega)) hg hS
  · have e : S = ⟨([116, 120] ++ (dec (o / 10) ++ 47 :: dec (h / 10))).toArray⟩ := by rw [HS]; simp
    have ez : S.size = 2 + ((dec (o / 10)).length + 1 + (dec (h / 10)).length) := by rw [e, sz]; simp; omega
    have hx : S.extract 2 S.size = ⟨(dec (o / 10) ++ 47 :: dec (h / 10)).toArray⟩ := by
      rw [ez, e, ext_list]
      congr 2
      rw [List.take_of_length_le (by simp; omega)]
      simp
    have ww : 10 * (o / 10) = o := by omega
    have wv : 10 * (h / 10) = h := by omega
    exact refParse_yes_t4 S w (by omega) (ne _ _ e (by simp)) (ne _ _ e (by simp)) (ne _ _ e (by simp)) (by omega) (neL2 (by
        rw [e, ext_list]
        intro he
        have h1 := congrArg (fun s : ByteArray => s.data.toList.head?) he
        simp at h1)) (neL2 (by
        rw [e, ext_list]
        intro he
        have h1 := congrArg (fun s : ByteArray => s.data.toList.head?) he
        simp at h1)) ((eqL _ _).2 (by rw [e, ext_list]; simp)) _ ⟨(dec (o / 10)).toArray⟩ ⟨(dec (h / 10)).toArray⟩ o h hx (by rw [sz]; simp; omega) (cutAll_two _ _ b32 b42) (o / 10) (fun w => baseNumber_dec (o / 10) w (by omega) (by omega)) (by rw [ww]; exact IntWalk.i64_in _ (by omega)) (by rw [ww]; exact IntWalk.wrap64_in _ (by omega)) (h / 10) (fun w => baseNumber_dec (h / 10) w (by omega) (by omega)) (by rw [wv]; exact IntWalk.i64_in _ (by omega)) (by rw [wv]; exact IntWalk.wrap64_in _ (by omega)) hg hS
end Go.Proofs.YtpagbkbaphjmdaaDoor
