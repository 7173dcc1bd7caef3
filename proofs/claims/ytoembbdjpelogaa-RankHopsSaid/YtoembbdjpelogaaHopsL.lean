/-
  The walk of the law RankHops: it returns true, and leaves all old memory as it was, whatever the numbers of the key and the height (of a key's numbers, that they are not negative, as their kinds have it).
-/
import Derived.Test.YtoembbdjpelogaaHops
import Derived.OpenShut
namespace Go.Proofs.Ytoembbdjpelogaa
open Go.RowKit

theorem u32_low {e : Int} (h : (Lit.int .u32 e).wf = true) : 0 ≤ e ∧ e ≤ 4294967295 := by
  simpa [Lit.wf, IntKind.min, IntKind.max, IntKind.signed, IntKind.bits] using h

set_option maxHeartbeats 3200000 in
theorem rankHops_walk (e s m h : Int) (w : World) (we : (Lit.int .u32 e).wf = true) (ws : (Lit.int .u32 s).wf = true) (_ : (Lit.int .i64 m).wf = true) (_ : (Lit.int .i64 h).wf = true) :
    Calls Try.prog 5 #[.agg #[.int .u32 e, .int .u32 s, .int .i64 m], .int .i64 h] w fun r w' => r = .returned (.bool true) ∧ Below w.heap.size w w' := by
  have he : 0 ≤ e := (u32_low we).1
  have hs : 0 ≤ s := (u32_low ws).1
  clear we ws
  go_enter Try.func5, Try.ntmps5
  go_wp2_with fail
  refine (to_any _ _ _ _).mono ?_
  rintro r w1 ⟨rfl, hb⟩
  obtain ⟨hbel, hsz, b0⟩ := after_one hb
  have c := b0.three
  obtain ⟨c0, c1, c2, -⟩ := c
  clear hb
  go_wp2_with fail
  refine (hop_any _ _ _ _).mono ?_
  rintro r w2 ⟨rfl, hb⟩
  have b1 := b0.keep hb
  have hbel2 := hbel.trans (hb.mono hbel.size)
  obtain ⟨c0', c1', c2', -⟩ := b1.three
  have l1 := b1.lt
  clear hb b0 hbel c0 c1 c2 hsz
  go_wp2_with fail
  -- the document's Hop
  refine (refHop_any _ _ _ _).mono ?_
  rintro r w3 ⟨rfl, hb⟩
  obtain ⟨hb3, l3, bA⟩ := after_one hb
  have b2 := b1.keep hb3
  have hbel3 := hbel2.trans (hb3.mono hbel2.size)
  obtain ⟨c0, c1, c2, -⟩ := b2.three
  have l2 := b2.lt
  clear hb c0' c1' c2' b1 l1 hbel2 hb3
  go_wp2_with fail
  -- Next
  refine (to_any _ _ _ _).mono ?_
  rintro r w4 ⟨rfl, hb⟩
  obtain ⟨hb4, l4, bB⟩ := after_one hb
  have b3 := b2.keep hb4
  have bA4 := bA.keep hb4
  have hbel4 := hbel3.trans (hb4.mono hbel3.size)
  clear hb c0 c1 c2 b2 l2 hbel3 hb4 bA
  obtain ⟨c0, c1, c2, -⟩ := b3.three
  have l2 := b3.lt
  go_wp2_with fail
  refine (next_any _ _ _ _ _ he hs).mono ?_
  rintro r w5 ⟨rfl, hb⟩
  have b5 := b3.keep hb
  have bA5 := bA4.keep hb
  have bB5 := bB.keep hb
  have hbel5 := hbel4.trans (hb.mono hbel4.size)
  clear hb c0 c1 c2 b3 l2 hbel4 bA4 bB
  obtain ⟨c0, c1, c2, -⟩ := b5.three
  have l2 := b5.lt
  go_wp2_with fail
  -- the document's Next
  refine (refNext_any _ _ _ _ _ he hs).mono ?_
  rintro r w6 ⟨rfl, hb⟩
  obtain ⟨hb6, l6, bC⟩ := after_one hb
  have bA6 := bA5.keep hb6
  have bB6 := bB5.keep hb6
  have hbel6 := hbel5.trans (hb6.mono hbel5.size)
  clear hb c0 c1 c2 b5 l2 hbel5 bA5 bB5 hb6
  go_wp2_with fail
  refine wp_region_flow (fun w' => Below w.heap.size w w'
      ∧ Blk w' w2.heap.size (Obj.cells #[Value.int IntKind.u32 (hopE e s m), Value.int IntKind.u32 (hopS e s m), Value.int IntKind.i64 (hopM e s m)] 26)
      ∧ Blk w' w3.heap.size (Obj.cells #[Value.int IntKind.u32 (hopE e s m), Value.int IntKind.u32 (hopS e s m), Value.int IntKind.i64 (hopM e s m)] 24)
      ∧ Blk w' w5.heap.size (Obj.cells #[Value.int IntKind.u32 (nextE e s m h), Value.int IntKind.u32 (nextS e s m h), Value.int IntKind.i64 0] 26)
      ∧ Blk w' w6.heap.size (Obj.cells #[Value.int IntKind.u32 (nextE e s m h), Value.int IntKind.u32 (nextS e s m h), Value.int IntKind.i64 0] 24)) (by kernel_rfl) (by kernel_rfl) (by kernel_rfl)
    ⟨(hbel6.alloc hbel6.size _).drew, (bA6.old _).draw, (bB6.old _).draw, (bC.old _).draw, (Blk.new _ _).draw⟩ ?_
  repeat (first
    | (apply Flow.idle
       · rfl
       try simp only [Act.put, List.setIfInBounds_toArray, List.set_cons_zero, List.set_cons_succ])
    | (apply Flow.value
       · rfl
       · (intro wx hS; have c1 := hS.2.1.cell; have c2 := hS.2.2.1.cell; have c3 := hS.2.2.2.1.cell; have c4 := hS.2.2.2.2.cell; go_simp; with_reducible rfl)
       try simp only [Act.put, List.setIfInBounds_toArray, List.set_cons_zero, List.set_cons_succ])
    | (apply Flow.call
       · rfl
       · (intro wx hS; go_simp; constructor <;> with_reducible rfl)
       · (intro wx hS; (first
           | refine (right_any _ _ _ _).mono ?_
           | refine (from_any _ _ _ _).mono ?_); rintro r w2 ⟨rfl, hb⟩; exact ⟨rfl, hS.1.trans (hb.mono hS.1.size), hS.2.1.keep hb, hS.2.2.1.keep hb, hS.2.2.2.1.keep hb, hS.2.2.2.2.keep hb⟩)
       try simp only [Act.put, List.setIfInBounds_toArray, List.set_cons_zero, List.set_cons_succ]))
  refine Flow.done ?_
  intro w' hS
  go_wp2
  go_ret
  exact ⟨rfl, hS.1⟩
end Go.Proofs.Ytoembbdjpelogaa
