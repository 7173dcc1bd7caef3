/-
  The contract of the document's In's Sums.
-/
import Derived.Test.YtlgcpfeaecpocaaRefB
namespace Go.Proofs.Ytlgcpfeaecpocaa
open Go.RowKit

def cnt1 (B : List Int) (at' : Nat) (e : Int) : Nat := (numOf (rawP B at' e 1)).toNat
def over (most : Int) (n : Nat) : Bool := decide ((if most < 0 then 0 else most) < (n : Int))
def rsumsE (B : List Int) (at' : Nat) (e most : Int) : Int :=
  if rawE B at' e 1 ≠ 0 then rawE B at' e 1 else if over most (cnt1 B at' e) then 8 else if cnt1 B at' e * 16 ≤ B.length - rawA B at' e 1 then 0 else 9
def rsumsA (B : List Int) (at' : Nat) (e most : Int) : Nat :=
  if rawE B at' e 1 ≠ 0 then rawA B at' e 1 else if over most (cnt1 B at' e) then rawA B at' e 1 else if cnt1 B at' e * 16 ≤ B.length - rawA B at' e 1 then rawA B at' e 1 + cnt1 B at' e * 16 else rawA B at' e 1 + (B.length - rawA B at' e 1) / 16 * 16
def rsumsP (B : List Int) (at' : Nat) (e most : Int) : List Int := if rsumsE B at' e most = 0 then (B.drop (rawA B at' e 1)).take (cnt1 B at' e * 16) else []
def RSumsPost (M R : Nat) (B : List Int) (at' : Nat) (e most : Int) (w : World) (r : Ending) (w' : World) : Prop :=
  ∃ v n, r = .returned v ∧ (rsumsP B at' e most).length = n * 16 ∧ n ≤ 255 ∧ w'.ownsRow w.heap.size 42 16 v n (bv (rsumsP B at' e most)) ∧ RefStep M R B (rsumsA B at' e most) (rsumsE B at' e most) w w'
theorem RSumsPost.no {M R : Nat} {B : List Int} {at' : Nat} {e most : Int} {w w' : World} {a : Nat} {e' : Int} (h1 : rsumsA B at' e most = a) (h2 : rsumsE B at' e most = e') (h3 : e' ≠ 0) (h : RefStep M R B a e' w w') :
    RSumsPost M R B at' e most w (.returned (.slice none 0 0)) w' := by
  refine ⟨_, 0, rfl, ?_, by omega, ?_, by rw [h1, h2]; exact h⟩
  · unfold rsumsP; rw [h2, if_neg h3]; rfl
  · unfold rsumsP; rw [h2, if_neg h3]; exact World.ownsRow_nil _ _ _ _

/-- A store into the error. -/
theorem RefIs.fail {w : World} {M R at' : Nat} {B : List Int} {e : Int} (h : RefIs w M R B at' e) (f : Int) : RefStep M R B at' f w (w.setCell ⟨R, 2, none⟩ (.int .i64 f)) := by
  obtain ⟨h1, ⟨v, hv, hB⟩, h3⟩ := h
  have hT : Turn R (refObj v at' f) w (w.setCell ⟨R, 2, none⟩ (.int .i64 f)) := ((Turn.same hB).set 2 _).as rfl
  exact ⟨⟨h1, ⟨v, hv.turn hT h1, hT.blk⟩, h3⟩, _, hT⟩

theorem cnt1_is {B : List Int} (hb : Bytes B) (at' : Nat) (e : Int) : numOf (rawP B at' e 1) = (cnt1 B at' e : Nat) ∧ cnt1 B at' e ≤ 255 := by
  have h := numOf_one (l := rawP B at' e 1) (rawP_len B at' e 1) (rawP_bytes hb at' e 1)
  unfold cnt1
  omega

theorem row_new (w : World) (l : List Int) (t : TypeId) : ∀ j u, (bv l)[j]? = some u → (w.alloc (.cells (bv l).toArray t)).cell? ((⟨w.heap.size, 0, none⟩ : Addr).add j) = some u := by
  intro j u hu
  have e : (⟨w.heap.size, 0, none⟩ : Addr).add j = ⟨w.heap.size, j, none⟩ := by unfold Addr.add; split <;> simp_all
  rw [e, (Blk.new w (.cells (bv l).toArray t)).cell j, List.getElem?_toArray]
  exact hu
end Go.Proofs.Ytlgcpfeaecpocaa
