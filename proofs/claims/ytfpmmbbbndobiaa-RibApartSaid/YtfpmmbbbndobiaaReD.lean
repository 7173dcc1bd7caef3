/-
  RibApart.
-/
import Derived.Test.YtfpmmbbbndobiaaReC
namespace Go.Proofs.Ytfpmmbbbndobiaa
open Go.RowKit

theorem ribApart_walk (h l e s m f : Int) (ad : Option Addr) (len cap : Nat) (ol : List OpR) (w : World) (_ : (Lit.int .i64 h).wf = true) (_ : (Lit.int .i64 l).wf = true) (_ : (Lit.int .u32 e).wf = true) (_ : (Lit.int .u32 s).wf = true) (_ : (Lit.int .i64 m).wf = true) (_ : (Lit.int .i64 f).wf = true) (hops : IsOpsR w ad len ol) :
    Calls Try.prog 5 #[.agg #[.int .i64 h, .int .i64 l], .agg #[.int .u32 e, .int .u32 s, .int .i64 m], .int .i64 f, .slice ad len cap] w fun r w' => r = .returned (.bool true) ∧ Below w.heap.size w w' := by
  cases hr : rtB h 1048576 with
  | false => exact ribApart_no h l ⟨e, s, m⟩ f ad len cap w (.inl hr)
  | true =>
    cases hk : krB ⟨e, s, m⟩ with
    | false => exact ribApart_no h l ⟨e, s, m⟩ f ad len cap w (.inr ⟨hr, .inl hk⟩)
    | true =>
      by_cases h1 : f < 1
      · exact ribApart_no h l ⟨e, s, m⟩ f ad len cap w (.inr ⟨hr, .inr ⟨hk, .inl h1⟩⟩)
      · by_cases h8 : 8 ≤ f
        · exact ribApart_no h l ⟨e, s, m⟩ f ad len cap w (.inr ⟨hr, .inr ⟨hk, .inr ⟨h1, h8⟩⟩⟩)
        · obtain ⟨g, rfl⟩ : ∃ g : Nat, f = g := ⟨f.toNat, by omega⟩
          exact ribApart_yes h l ⟨e, s, m⟩ g ad len cap ol w hr hk (by omega) hops
end Go.Proofs.Ytfpmmbbbndobiaa
