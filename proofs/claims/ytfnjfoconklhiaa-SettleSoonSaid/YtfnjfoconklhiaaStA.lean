/-
  Plans as cells; the contracts of the small calls.
-/
import Derived.Test.YtfnjfoconklhiaaBase
import Derived.Test.YtfnjfoconklhiaaFlowV
import Derived.IntWalk
namespace Go.Proofs.Ytfnjfoconklhiaa
open Go.RowKit

/-- News of a destination. -/
structure NW where
  (noted : Bool)
  (e s m first : Int)
  (waits urgent : Bool)
/-- A plan. -/
structure PS where
  (period settle : Int)
  (ever : Bool)
  (told : Int)
  (all : Nat → NW)
def nwc (n : NW) : List Value := [.bool n.noted, .int .u32 n.e, .int .u32 n.s, .int .i64 n.m, .int .i64 n.first, .bool n.waits, .bool n.urgent]
def pcs (p : PS) : List Value := [.int .i64 p.period, .int .i64 p.settle, .bool p.ever, .int .i64 p.told] ++ (nwc (p.all 0) ++ nwc (p.all 1) ++ nwc (p.all 2) ++ nwc (p.all 3) ++ nwc (p.all 4) ++ nwc (p.all 5) ++ nwc (p.all 6) ++ nwc (p.all 7))
/-- The document's. -/
def nrc (n : NW) : List Value := [.int .u32 n.e, .int .u32 n.s, .int .i64 n.m, .bool n.noted, .bool n.waits, .bool n.urgent, .int .i64 n.first]
def prc (p : PS) : List Value := [.int .i64 p.period, .int .i64 p.settle, .bool p.ever, .int .i64 p.told] ++ (nrc (p.all 0) ++ nrc (p.all 1) ++ nrc (p.all 2) ++ nrc (p.all 3) ++ nrc (p.all 4) ++ nrc (p.all 5) ++ nrc (p.all 6) ++ nrc (p.all 7))
theorem pcs_len (p : PS) : (pcs p).length = 60 := rfl
theorem prc_len (p : PS) : (prc p).length = 60 := rfl
def PS.put (p : PS) (d : Nat) (n : NW) : PS := { p with all := fun i => if i = d then n else p.all i }
theorem pcs_at (p : PS) {d k : Nat} (hd : d < 8) (hk : k < 7) : (pcs p)[4 + d * 7 + k]? = (nwc (p.all d))[k]? := by
  match d, hd with
  | 0, _ | 1, _ | 2, _ | 3, _ | 4, _ | 5, _ | 6, _ | 7, _ =>
    match k, hk with
    | 0, _ | 1, _ | 2, _ | 3, _ | 4, _ | 5, _ | 6, _ => rfl
theorem prc_at (p : PS) {d k : Nat} (hd : d < 8) (hk : k < 7) : (prc p)[4 + d * 7 + k]? = (nrc (p.all d))[k]? := by
  match d, hd with
  | 0, _ | 1, _ | 2, _ | 3, _ | 4, _ | 5, _ | 6, _ | 7, _ =>
    match k, hk with
    | 0, _ | 1, _ | 2, _ | 3, _ | 4, _ | 5, _ | 6, _ => rfl
/-- A cell of one destination's. -/
theorem pcs_set (p : PS) {d k : Nat} (hd : d < 8) (hk : k < 7) {v : Value} {n : NW} (h : nwc n = (nwc (p.all d)).set k v) : (pcs p).set (4 + d * 7 + k) v = pcs (p.put d n) := by
  match d, hd with
  | 0, _ =>
    rw [show pcs (p.put 0 n) = [.int .i64 p.period, .int .i64 p.settle, .bool p.ever, .int .i64 p.told] ++ (nwc n ++ nwc (p.all 1) ++ nwc (p.all 2) ++ nwc (p.all 3) ++ nwc (p.all 4) ++ nwc (p.all 5) ++ nwc (p.all 6) ++ nwc (p.all 7)) from rfl, h]
    match k, hk with
    | 0, _ | 1, _ | 2, _ | 3, _ | 4, _ | 5, _ | 6, _ => rfl
  | 1, _ =>
    rw [show pcs (p.put 1 n) = [.int .i64 p.period, .int .i64 p.settle, .bool p.ever, .int .i64 p.told] ++ (nwc (p.all 0) ++ nwc n ++ nwc (p.all 2) ++ nwc (p.all 3) ++ nwc (p.all 4) ++ nwc (p.all 5) ++ nwc (p.all 6) ++ nwc (p.all 7)) from rfl, h]
    match k, hk with
    | 0, _ | 1, _ | 2, _ | 3, _ | 4, _ | 5, _ | 6, _ => rfl
  | 2, _ =>
    rw [show pcs (p.put 2 n) = [.int .i64 p.period, .int .i64 p.settle, .bool p.ever, .int .i64 p.told] ++ (nwc (p.all 0) ++ nwc (p.all 1) ++ nwc n ++ nwc (p.all 3) ++ nwc (p.all 4) ++ nwc (p.all 5) ++ nwc (p.all 6) ++ nwc (p.all 7)) from rfl, h]
    match k, hk with
    | 0, _ | 1, _ | 2, _ | 3, _ | 4, _ | 5, _ | 6, _ => rfl
  | 3, _ =>
    rw [show pcs (p.put 3 n) = [.int .i64 p.period, .int .i64 p.settle, .bool p.ever, .int .i64 p.told] ++ (nwc (p.all 0) ++ nwc (p.all 1) ++ nwc (p.all 2) ++ nwc n ++ nwc (p.all 4) ++ nwc (p.all 5) ++ nwc (p.all 6) ++ nwc (p.all 7)) from rfl, h]
    match k, hk with
    | 0, _ | 1, _ | 2, _ | 3, _ | 4, _ | 5, _ | 6, _ => rfl
  | 4, _ =>
    rw [show pcs (p.put 4 n) = [.int .i64 p.period, .int .i64 p.settle, .bool p.ever, .int .i64 p.told] ++ (nwc (p.all 0) ++ nwc (p.all 1) ++ nwc (p.all 2) ++ nwc (p.all 3) ++ nwc n ++ nwc (p.all 5) ++ nwc (p.all 6) ++ nwc (p.all 7)) from rfl, h]
    match k, hk with
    | 0, _ | 1, _ | 2, _ | 3, _ | 4, _ | 5, _ | 6, _ => rfl
  | 5, _ =>
    rw [show pcs (p.put 5 n) = [.int .i64 p.period, .int .i64 p.settle, .bool p.ever, .int .i64 p.told] ++ (nwc (p.all 0) ++ nwc (p.all 1) ++ nwc (p.all 2) ++ nwc (p.all 3) ++ nwc (p.all 4) ++ nwc n ++ nwc (p.all 6) ++ nwc (p.all 7)) from rfl, h]
    match k, hk with
    | 0, _ | 1, _ | 2, _ | 3, _ | 4, _ | 5, _ | 6, _ => rfl
  | 6, _ =>
    rw [show pcs (p.put 6 n) = [.int .i64 p.period, .int .i64 p.settle, .bool p.ever, .int .i64 p.told] ++ (nwc (p.all 0) ++ nwc (p.all 1) ++ nwc (p.all 2) ++ nwc (p.all 3) ++ nwc (p.all 4) ++ nwc (p.all 5) ++ nwc n ++ nwc (p.all 7)) from rfl, h]
    match k, hk with
    | 0, _ | 1, _ | 2, _ | 3, _ | 4, _ | 5, _ | 6, _ => rfl
  | 7, _ =>
    rw [show pcs (p.put 7 n) = [.int .i64 p.period, .int .i64 p.settle, .bool p.ever, .int .i64 p.told] ++ (nwc (p.all 0) ++ nwc (p.all 1) ++ nwc (p.all 2) ++ nwc (p.all 3) ++ nwc (p.all 4) ++ nwc (p.all 5) ++ nwc (p.all 6) ++ nwc n) from rfl, h]
    match k, hk with
    | 0, _ | 1, _ | 2, _ | 3, _ | 4, _ | 5, _ | 6, _ => rfl
theorem prc_set (p : PS) {d k : Nat} (hd : d < 8) (hk : k < 7) {v : Value} {n : NW} (h : nrc n = (nrc (p.all d)).set k v) : (prc p).set (4 + d * 7 + k) v = prc (p.put d n) := by
  match d, hd with
  | 0, _ =>
    rw [show prc (p.put 0 n) = [.int .i64 p.period, .int .i64 p.settle, .bool p.ever, .int .i64 p.told] ++ (nrc n ++ nrc (p.all 1) ++ nrc (p.all 2) ++ nrc (p.all 3) ++ nrc (p.all 4) ++ nrc (p.all 5) ++ nrc (p.all 6) ++ nrc (p.all 7)) from rfl, h]
    match k, hk with
    | 0, _ | 1, _ | 2, _ | 3, _ | 4, _ | 5, _ | 6, _ => rfl
  | 1, _ =>
    rw [show prc (p.put 1 n) = [.int .i64 p.period, .int .i64 p.settle, .bool p.ever, .int .i64 p.told] ++ (nrc (p.all 0) ++ nrc n ++ nrc (p.all 2) ++ nrc (p.all 3) ++ nrc (p.all 4) ++ nrc (p.all 5) ++ nrc (p.all 6) ++ nrc (p.all 7)) from rfl, h]
    match k, hk with
    | 0, _ | 1, _ | 2, _ | 3, _ | 4, _ | 5, _ | 6, _ => rfl
  | 2, _ =>
    rw [show prc (p.put 2 n) = [.int .i64 p.period, .int .i64 p.settle, .bool p.ever, .int .i64 p.told] ++ (nrc (p.all 0) ++ nrc (p.all 1) ++ nrc n ++ nrc (p.all 3) ++ nrc (p.all 4) ++ nrc (p.all 5) ++ nrc (p.all 6) ++ nrc (p.all 7)) from rfl, h]
    match k, hk with
    | 0, _ | 1, _ | 2, _ | 3, _ | 4, _ | 5, _ | 6, _ => rfl
  | 3, _ =>
    rw [show prc (p.put 3 n) = [.int .i64 p.period, .int .i64 p.settle, .bool p.ever, .int .i64 p.told] ++ (nrc (p.all 0) ++ nrc (p.all 1) ++ nrc (p.all 2) ++ nrc n ++ nrc (p.all 4) ++ nrc (p.all 5) ++ nrc (p.all 6) ++ nrc (p.all 7)) from rfl, h]
    match k, hk with
    | 0, _ | 1, _ | 2, _ | 3, _ | 4, _ | 5, _ | 6, _ => rfl
  | 4, _ =>
    rw [show prc (p.put 4 n) = [.int .i64 p.period, .int .i64 p.settle, .bool p.ever, .int .i64 p.told] ++ (nrc (p.all 0) ++ nrc (p.all 1) ++ nrc (p.all 2) ++ nrc (p.all 3) ++ nrc n ++ nrc (p.all 5) ++ nrc (p.all 6) ++ nrc (p.all 7)) from rfl, h]
    match k, hk with
    | 0, _ | 1, _ | 2, _ | 3, _ | 4, _ | 5, _ | 6, _ => rfl
  | 5, _ =>
    rw [show prc (p.put 5 n) = [.int .i64 p.period, .int .i64 p.settle, .bool p.ever, .int .i64 p.told] ++ (nrc (p.all 0) ++ nrc (p.all 1) ++ nrc (p.all 2) ++ nrc (p.all 3) ++ nrc (p.all 4) ++ nrc n ++ nrc (p.all 6) ++ nrc (p.all 7)) from rfl, h]
    match k, hk with
    | 0, _ | 1, _ | 2, _ | 3, _ | 4, _ | 5, _ | 6, _ => rfl
  | 6, _ =>
    rw [show prc (p.put 6 n) = [.int .i64 p.period, .int .i64 p.settle, .bool p.ever, .int .i64 p.told] ++ (nrc (p.all 0) ++ nrc (p.all 1) ++ nrc (p.all 2) ++ nrc (p.all 3) ++ nrc (p.all 4) ++ nrc (p.all 5) ++ nrc n ++ nrc (p.all 7)) from rfl, h]
    match k, hk with
    | 0, _ | 1, _ | 2, _ | 3, _ | 4, _ | 5, _ | 6, _ => rfl
  | 7, _ =>
    rw [show prc (p.put 7 n) = [.int .i64 p.period, .int .i64 p.settle, .bool p.ever, .int .i64 p.told] ++ (nrc (p.all 0) ++ nrc (p.all 1) ++ nrc (p.all 2) ++ nrc (p.all 3) ++ nrc (p.all 4) ++ nrc (p.all 5) ++ nrc (p.all 6) ++ nrc n) from rfl, h]
    match k, hk with
    | 0, _ | 1, _ | 2, _ | 3, _ | 4, _ | 5, _ | 6, _ => rfl
end Go.Proofs.Ytfnjfoconklhiaa
