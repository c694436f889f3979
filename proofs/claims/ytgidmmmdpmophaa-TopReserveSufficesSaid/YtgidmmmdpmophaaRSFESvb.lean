import Derived.Test.YtgidmmmdpmophaaRSFENp
import Derived.Test.YtgidmmmdpmophaaRSFENeed
import Derived.Test.YtgidmmmdpmophaaRSFECta
import Derived.Outline
import Derived.Test.YtgidmmmdpmophaaRSFESva
namespace Go.Proofs.Ytgidmmmdpmophaa
open Go.Shelf Go.ChangeShapes Go.WideShapes Go.ChangeAt Go.RowKit
set_option linter.unusedVariables false
set_option linter.unusedSimpArgs false
attribute [local go_sem ↓] Go.wp_at_zero Go.wp_at_succ
attribute [local go_sem] Oper.semAt_some
theorem gaV_len : ∀ g, (gaV g).length = 2 := fun _ => rfl
theorem leV_len : ∀ g, (leV g).length = 3 := fun _ => rfl
theorem ptV_len : ∀ g, (ptV g).length = 2 := fun _ => rfl
theorem bsO_cells {α : Type} {f : α → List Value} {n : Nat} {X : World} {A : Option Addr} {L : List α} (hf : ∀ g, (f g).length = n + 1) (h : SlRows f (n + 1) X A L) : ∀ b ∈ bsO A L, ∃ o, X.heap[b]? = some o ∧ o.isCells = true := by
  intro b hb
  rcases h with rfl | ⟨c, off, rfl, hl, hR⟩
  · cases A <;> simp [bsO] at hb
  · cases L with
    | nil => simp [bsO] at hb
    | cons x l =>
      simp [bsO] at hb
      subst hb
      have h0 := hR 0 (by simp) 0 (by omega)
      have hx : 0 < (f ((x :: l)[0])).length := by rw [hf]; omega
      obtain ⟨v, hv⟩ : ∃ v, (f ((x :: l)[0]))[0]? = some v := ⟨_, List.getElem?_eq_getElem hx⟩
      rw [hv] at h0
      exact cells_of h0
theorem needs_posF (n : Nat) (hn : 5 ≤ n) (bs : List Nat) (fb sb rb : Nat) (nm : ByteArray) (s : Int) (G : List Ga) (D : List Le) (A B P : Option Addr) (gn gc dn dc pc : Nat) (E9 : Int) (T : List Ox) (r : Ru) (AT : Option Addr) (tn tc : Nat) (t : Int) (xs : List Nat) (w : World) (gF : Nat → Nat) (vF sF : Nat → Int) (hF : Hid (∀ i : Nat, gF i = ndG s G D (t + (i : Int)) ∧ vF i = ndV r s G D (t + (i : Int)) ∧ sF i = t + (i : Int))) (hgn : Hid (gn = G.length)) (hdn : Hid (dn = D.length)) (hok : Hid (PlnOk nm s G D)) (hru : Hid (RuOk T r)) (hshort : Hid (∀ k, (legC s G D k).s ≤ 20000))
    (hM : FolM bs fb nm s G D A B P gn gc dn dc pc E9 w) (hbsw : ∀ b ∈ bs, b < w.heap.size) (hbsc : ∀ b ∈ bs, b ∉ xs ∧ ∃ o, w.heap[b]? = some o ∧ o.isCells = true) (hxs : ∀ b ∈ xs, b < w.heap.size) (hrx : rb ∉ xs) (hSb : BlkF w 0 sb [.int .i64 t]) (hRb : BlkF w 0 rb [.slice AT tn tc, .int .i64 r.a, .int .i64 r.b, .int .i64 r.nc, .int .i64 r.dn, .int .i64 r.br, .int .i64 r.em, .int .i64 r.pa, .int .i64 r.sc]) (t0 : 0 ≤ t) (t1 : Hid (t ≤ secT D D.length)) (hS9 : Hid (secT D D.length ≤ 20000)) :
    SeqP (n - 1 - 1 - 1) n Try.prog 53 #[.pointer (some ⟨sb, 0, none⟩), .pointer (some ⟨fb, 0, none⟩), .pointer (some ⟨rb, 0, none⟩)] (fun i => #[.int .i64 (gF i : Int), .agg #[.int .i64 (vF i), .int .i64 (sF i)]]) (KeepX xs) (ndN D t) w := by
  have e : (fun i : Nat => #[Value.int .i64 (gF i : Int), .agg #[.int .i64 (vF i), .int .i64 (sF i)]]) = (fun i : Nat => #[.int .i64 (ndG s G D (t + (i : Int)) : Int), .agg #[.int .i64 (ndV r s G D (t + (i : Int))), .int .i64 (t + (i : Int))]]) := funext fun i => by
    obtain ⟨h1, h2, h3⟩ := hF.out i
    rw [h1, h2, h3]
  rw [e]
  exact needs_pos n hn bs fb sb rb nm s G D A B P gn gc dn dc pc E9 T r AT tn tc t xs w hgn hdn hok hru hshort hM hbsw hbsc hxs hrx hSb hRb t0 t1 hS9
end Go.Proofs.Ytgidmmmdpmophaa

namespace Go.Proofs.Ytgidmmmdpmophaa
open Go.Shelf Go.ChangeShapes Go.WideShapes Go.ChangeAt Go.RowKit
set_option linter.unusedVariables false
set_option linter.unusedSimpArgs false
attribute [local go_sem] Oper.semAt_some
attribute [local go_sem ↓] Go.wp_at_zero Go.wp_at_succ
theorem BoxN.below {X Y : World} {b : Nat} {t : TypeId} {vs : List Value} (h : BoxN X b t vs) (hb : Below X.heap.size X Y) : BoxN Y b t vs := (hb.block b h.lt).trans h
theorem SlRows.otherB {α : Type} {f : α → List Value} {n : Nat} {u : World} {A : Option Addr} {L : List α} {c i : Nat} {l : List Value} (h : SlRows f n u A L) (hc : ∀ ad, A = some ad → ad.block ≠ c) : SlRows f n (stW u c i l) A L := by
  rcases h with h | ⟨b, o, rfl, hl, hR⟩
  · exact Or.inl h
  · exact Or.inr ⟨b, o, rfl, by rw [stW_size]; exact hl, fun k hk j hj => (stW_oc (hc _ rfl) _).trans (hR k hk j hj)⟩
theorem FolG.other {nm : ByteArray} {s : Int} {A : Option Addr} {gn gc : Nat} {B : Option Addr} {dn dc : Nat} {D : List Le} {E : Int} {a0 : ByteArray} {a1 : Int} {a2 : Option Addr} {n2 c2 : Nat} {a3 : Option Addr} {n3 c3 : Nat} {a4 : Option Addr} {n4 c4 : Nat} {a5 : Int} {X : World} {c i : Nat} {l : List Value} (h : FolG nm s A gn gc B dn dc D E a0 a1 a2 n2 c2 a3 n3 c3 a4 n4 c4 a5 X) (hc : E = 0 → ∀ ad, a4 = some ad → ad.block ≠ c) : FolG nm s A gn gc B dn dc D E a0 a1 a2 n2 c2 a3 n3 c3 a4 n4 c4 a5 (stW X c i l) :=
  fun e => ⟨(h e).1, (h e).2.otherB (hc e)⟩
end Go.Proofs.Ytgidmmmdpmophaa
