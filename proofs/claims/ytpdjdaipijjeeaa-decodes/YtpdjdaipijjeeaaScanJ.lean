/-
  The walk of the document's Decode.
-/
import Derived.Test.YtpdjdaipijjeeaaScanI
namespace Go.Proofs.Ytpdjdaipijjeeaa
open Go.RowKit

/-- A message's value. -/
def msgV (k M N R : Int) (T : Value) : Value := .agg #[.int .i64 k, .int .i64 M, .int .i64 N, .int .i64 R, T]

/-- A new reader. -/
theorem scan_new (w : World) (s : ByteArray) (B : Nat) (hB : B = w.heap.size) (b0 : Nat) (hb : b0 ≤ w.heap.size) : ScanAt (w.alloc (.cells #[.string s, .int .i64 0, .int .i64 0, .int .i64 0, .slice none 0 0] 96)) b0 B s 0 0 0 (.slice none 0 0) [] := by
  subst hB
  exact ⟨hb, heap_alloc_new _ _, rfl, .inl ⟨rfl, rfl⟩⟩

set_option maxRecDepth 100000 in
set_option maxHeartbeats 1000000 in
theorem dec_long (s : ByteArray) (w : World) (hs : 4000 < s.size) :
    Calls Try.prog 39 #[.string s] w fun r w' => r = .returned (.tuple #[msgV 0 0 0 0 (.slice none 0 0), .int .i64 2, .int .i64 0]) ∧ Below w.heap.size w w' := by
  unfold msgV
  go_enter Try.func39, Try.ntmps39
  go_wp2
  all_goals go_returns
  all_goals exact ⟨rfl, by go_grown⟩
end Go.Proofs.Ytpdjdaipijjeeaa
