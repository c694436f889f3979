/- What the base's cutting of a text at a slash returns. -/
import Derived.Test.YtpagbkbaphjmdaaDoorLeaf
import Derived.Maps.AppendAt
import Derived.OwnWalk
import Derived.Outline
namespace Go.Proofs.YtpagbkbaphjmdaaDoor
open Go.ChangeShapes Go.WideShapes Go.ChangeAt Go.RowKit
set_option linter.unusedVariables false
set_option linter.unusedSimpArgs false

/-- The pieces that end before place k, and where the next one begins. -/
def cutSt (S : ByteArray) : Nat → List ByteArray × Nat
  | 0 => ([], 0)
  | k + 1 => if S.data.toList[k]? = some 47 then ((cutSt S k).1 ++ [S.extract (cutSt S k).2 k], k + 1) else cutSt S k
def cutAll (S : ByteArray) : List ByteArray := (cutSt S S.size).1 ++ [S.extract (cutSt S S.size).2 S.size]
theorem cutSt_le (S : ByteArray) : ∀ k, (cutSt S k).2 ≤ k ∧ (cutSt S k).1.length ≤ k
  | 0 => by simp [cutSt]
  | k + 1 => by
    have h := cutSt_le S k
    unfold cutSt
    split
    · simp; omega
    · omega
theorem cutSt_hit (S : ByteArray) {k : Nat} (hk : k < S.size) (hc : S[k].toNat = 47) : cutSt S (k + 1) = ((cutSt S k).1 ++ [S.extract (cutSt S k).2 k], k + 1) := by
  have h : S.data.toList[k]? = some 47 := by
    have hl : k < S.data.toList.length := by simpa using hk
    rw [List.getElem?_eq_getElem hl]
    congr 1
    exact UInt8.toNat_inj.1 (by exact hc)
  rw [cutSt, if_pos h]
theorem cutSt_miss (S : ByteArray) {k : Nat} (hk : k < S.size) (hc : ¬ S[k].toNat = 47) : cutSt S (k + 1) = cutSt S k := by
  have h : ¬ S.data.toList[k]? = some 47 := by
    have hl : k < S.data.toList.length := by simpa using hk
    rw [List.getElem?_eq_getElem hl]
    intro e
    refine hc ?_
    have e2 : S.data.toList[k] = 47 := Option.some.inj e
    show (S.data.toList[k]).toNat = 47
    rw [e2]; rfl
  rw [cutSt, if_neg h]
def strs (ws : List ByteArray) : List Value := ws.map Value.string
theorem own_blockS {w : World} {base : Nat} {e : TypeId} {s n : Nat} {v : Value} {xs : List Value} (h : w.ownsRow base e s v n xs) : ∀ k, v.ownBlock = some k → base ≤ k := by
  intro k hk
  rcases h.2 with ⟨rfl, _⟩ | ⟨g, cap, cur, rfl, hb, _⟩
  · simp [Value.ownBlock] at hk
  · simp [Value.ownBlock] at hk; omega
/-- A slice of the call's own that holds these texts. -/
def TextsAt (w : World) (v : Value) (ws : List ByteArray) (base : Nat) : Prop := ∃ b cap, v = .slice (some ⟨b, 0, none⟩) ws.length cap ∧ b < w.heap.size ∧ base ≤ b ∧ ∀ k u, (strs ws)[k]? = some u → w.cell? ⟨b, k, none⟩ = some u
theorem texts_own {w : World} {base : Nat} {e : TypeId} {v : Value} {ws : List ByteArray} (hn : v ≠ .slice none 0 0) (h : w.ownsRow base e 1 v ws.length (strs ws)) : TextsAt w v ws base := by
  rcases h.2 with ⟨hv, _⟩ | ⟨g, cap, cur, rfl, hb, hg, _⟩
  · exact absurd hv hn
  · refine ⟨g, cap, rfl, (Array.getElem?_eq_some_iff.1 hg).1, hb, fun k u hk => ?_⟩
    have c := World.ownsRow.cells h (g := g) rfl k u hk
    unfold Addr.add at c
    split at c
    · rename_i hz; subst hz; exact c
    · simpa using c
theorem infoStr : (Tryd.prog.info? 9).map (fun i => (i.zero, i.size, i.bytes)) = some (some (.string ⟨#[]⟩), 1, 16) := by kernel_rfl
set_option maxRecDepth 100000 in
set_option maxHeartbeats 1000000 in
theorem baseCut_any (S : ByteArray) (w : World) (hl : S.size ≤ 1000) :
    Calls Tryd.prog 20 #[.string S, .int .u8 47] w fun e w' => ∃ v, e = .returned v ∧ TextsAt w' v (cutAll S) w.heap.size ∧ Below w.heap.size w w' := by
  obtain ⟨i0, hi, hz0, hz1, hz2⟩ := info_parts infoStr
  have HI := Lib.hid hi
  have HZ0 := Lib.hid hz0
  have HZ1 := Lib.hid hz1
  have HZ2 := Lib.hid hz2
  clear hi hz0 hz1 hz2
  go_enter Tryd.func20, Tryd.ntmps20
  go_wp2
  go_loopw [5, 6, 7] (fun v f i wr => ∃ (k p : Nat) (ws : List ByteArray), i = .int .i64 k ∧ f = .int .i64 p ∧ k ≤ S.size ∧ Hid (cutSt S k = (ws, p)) ∧ Hid (wr.ownsRow w.heap.size 9 1 v ws.length (strs ws)) ∧ Below w.heap.size w wr) (fun _ _ i _ => S.size - (intOf i).toNat)
  case atStart => exact ⟨0, 0, [], rfl, rfl, by omega, rfl, World.ownsRow_nil _ _ _ _, (by (repeat (first | (with_reducible refine Below.drew ?_) | (with_reducible refine below_drewN ?_ _) | (with_reducible refine Below.alloc ?_ (by first | omega | (simp; done) | (simp; omega) | (simp at *; omega)) _) | (with_reducible refine Below.setCell ?_ (by first | omega | (simp; done) | (simp; omega) | (simp at *; omega)) _) | (with_reducible exact Below.refl _ _) | (with_reducible assumption) | (with_reducible refine Below.trans ?_ (Below.mono (by assumption) (by first | omega | (simp; done) | (simp; omega) | (simp at *; omega)))))))⟩
  case round =>
    obtain ⟨k, p, ws, rfl, rfl, hk, hst, HO, hB⟩ := hrel
    have sz := hB.size
    have hle := cutSt_le S k
    rw [hst.out] at hle
    obtain ⟨hp, hwl⟩ := hle
    simp only at hp hwl
    have p0 : (0 : Int) ≤ p := by omega
    have p1 : (p : Int) ≤ k := by omega
    by_cases hkl : k < S.size
    · have p2 : (k : Int) ≤ S.size := by omega
      obtain ⟨c, hcc⟩ : ∃ c : Nat, S[k].toNat = c := ⟨_, rfl⟩
      by_cases hc : c = 47
      · subst hc
        have HN : Hid (cutSt S (k + 1) = (ws ++ [S.extract p k], k + 1)) := by show _ = _; rw [cutSt_hit S hkl hcc, hst.out]
        go_wp2_with (at_builtin; refine wpList_append_own_at _ rfl _ _ 60 rfl w.heap.size 9 i0 (.string ⟨#[]⟩) 1 16 Tryd.underlying60 HI.out HZ0.out HZ1.out HZ2.out rfl (by decide) _ _ _ rfl (HO.out.alloc _) ⟨wr.heap.size, 0, none⟩ 1 1 [.string (S.extract p k)] rfl rfl (cell_one_new _ _ _) (by simp [Value.oneCell']) ?c2 ?c3 ?c4 ?_)
        case c2 => unfold maxLen; omega
        case c3 => omega
        case c4 => simp; omega
        intro v' w5 hown hgrow hnn hblk
        have hB5 : Below w.heap.size w w5 := hB.trans (((Below.refl w.heap.size wr).alloc (by omega) _).grown hgrow (by simp; omega) (own_blockS HO.out))
        have HOW : Hid (w5.ownsRow w.heap.size 9 1 v' (ws ++ [S.extract p k]).length (strs (ws ++ [S.extract p k]))) := by
          show World.ownsRow _ _ _ _ _ _ _
          unfold strs
          rw [List.map_append, List.length_append]
          exact hown
        clear hown hgrow hnn hblk HO hst
        go_wp2
        go_roundw
        case rel => exact ⟨k + 1, k + 1, _, by go_num, by go_num, by omega, HN, HOW, (by (repeat (first | (with_reducible refine Below.drew ?_) | (with_reducible refine below_drewN ?_ _) | (with_reducible refine Below.alloc ?_ (by first | omega | (simp; done) | (simp; omega) | (simp at *; omega)) _) | (with_reducible refine Below.setCell ?_ (by first | omega | (simp; done) | (simp; omega) | (simp at *; omega)) _) | (with_reducible exact Below.refl _ _) | (with_reducible assumption) | (with_reducible refine Below.trans ?_ (Below.mono (by assumption) (by first | omega | (simp; done) | (simp; omega) | (simp at *; omega)))))))⟩
        case measure => (simp [intOf]) <;> omega
      · have hc2 : ((c : Int) == 47) = false := by simp; omega
        have hc3 : ¬ (c : Int) = 47 := by omega
        have HN : Hid (cutSt S (k + 1) = (ws, p)) := by show _ = _; rw [cutSt_miss S hkl (by omega), hst.out]
        go_wp2
        go_roundw
        case rel => exact ⟨k + 1, p, ws, by go_num, rfl, by omega, HN, HO, (by (repeat (first | (with_reducible refine Below.drew ?_) | (with_reducible refine below_drewN ?_ _) | (with_reducible refine Below.alloc ?_ (by first | omega | (simp; done) | (simp; omega) | (simp at *; omega)) _) | (with_reducible refine Below.setCell ?_ (by first | omega | (simp; done) | (simp; omega) | (simp at *; omega)) _) | (with_reducible exact Below.refl _ _) | (with_reducible assumption) | (with_reducible refine Below.trans ?_ (Below.mono (by assumption) (by first | omega | (simp; done) | (simp; omega) | (simp at *; omega)))))))⟩
        case measure => (simp [intOf]) <;> omega
    · have hkk : k = S.size := by omega
      subst hkk
      have HA : Hid (cutAll S = ws ++ [S.extract p S.size]) := by show _ = _; unfold cutAll; rw [hst.out]
      go_wp2_with (at_builtin; refine wpList_append_own_at _ rfl _ _ 60 rfl w.heap.size 9 i0 (.string ⟨#[]⟩) 1 16 Tryd.underlying60 HI.out HZ0.out HZ1.out HZ2.out rfl (by decide) _ _ _ rfl (HO.out.alloc _) ⟨wr.heap.size, 0, none⟩ 1 1 [.string (S.extract p S.size)] rfl rfl (cell_one_new _ _ _) (by simp [Value.oneCell']) ?c2 ?c3 ?c4 ?_)
      case c2 => unfold maxLen; omega
      case c3 => omega
      case c4 => simp; omega
      intro v' w5 hown hgrow hnn hblk
      have hB5 : Below w.heap.size w w5 := hB.trans (((Below.refl w.heap.size wr).alloc (by omega) _).grown hgrow (by simp; omega) (own_blockS HO.out))
      have hv : v' ≠ .slice none 0 0 := by first | exact hnn | exact fun e => by have := (hnn.1 e).2; simp at this
      have HT : Hid (TextsAt w5 v' (cutAll S) w.heap.size) := by
        show TextsAt _ _ _ _
        refine texts_own (e := 9) hv ?_
        rw [HA.out]
        unfold strs
        rw [List.map_append, List.length_append]
        exact hown
      clear hown hgrow hnn hblk HO hst
      go_wp2
      go_ret
      exact ⟨_, rfl, HT.out, (by (repeat (first | (with_reducible refine Below.drew ?_) | (with_reducible refine below_drewN ?_ _) | (with_reducible refine Below.alloc ?_ (by first | omega | (simp; done) | (simp; omega) | (simp at *; omega)) _) | (with_reducible refine Below.setCell ?_ (by first | omega | (simp; done) | (simp; omega) | (simp at *; omega)) _) | (with_reducible exact Below.refl _ _) | (with_reducible assumption) | (with_reducible refine Below.trans ?_ (Below.mono (by assumption) (by first | omega | (simp; done) | (simp; omega) | (simp at *; omega)))))))⟩
end Go.Proofs.YtpagbkbaphjmdaaDoor
