/- Turned to the left, as the document says it: left. -/
import Derived.Test.YtiombblclgkigaaSA
namespace Go.Proofs.Ytiombblclgkigaa
open Go.RowKit
set_option maxHeartbeats 1000000
set_option maxRecDepth 100000

theorem left13 (x : BitVec 64) (w : World) : Calls Try.prog 26 #[.int .u64 (I x), .int .u64 13] w fun e w' => e = .returned (.int .u64 (I (rl x 13))) ∧ w = w' := by
  have h0 := I_nn x; have h1 := I_lt x
  go_enter Try.func26, Try.ntmps26
  go_wp2
  go_ret
  exact ⟨congrArg (fun n => Ending.returned (Value.int .u64 n)) (rotv13 x), rfl⟩

theorem left16 (x : BitVec 64) (w : World) : Calls Try.prog 26 #[.int .u64 (I x), .int .u64 16] w fun e w' => e = .returned (.int .u64 (I (rl x 16))) ∧ w = w' := by
  have h0 := I_nn x; have h1 := I_lt x
  go_enter Try.func26, Try.ntmps26
  go_wp2
  go_ret
  exact ⟨congrArg (fun n => Ending.returned (Value.int .u64 n)) (rotv16 x), rfl⟩

theorem left17 (x : BitVec 64) (w : World) : Calls Try.prog 26 #[.int .u64 (I x), .int .u64 17] w fun e w' => e = .returned (.int .u64 (I (rl x 17))) ∧ w = w' := by
  have h0 := I_nn x; have h1 := I_lt x
  go_enter Try.func26, Try.ntmps26
  go_wp2
  go_ret
  exact ⟨congrArg (fun n => Ending.returned (Value.int .u64 n)) (rotv17 x), rfl⟩

theorem left21 (x : BitVec 64) (w : World) : Calls Try.prog 26 #[.int .u64 (I x), .int .u64 21] w fun e w' => e = .returned (.int .u64 (I (rl x 21))) ∧ w = w' := by
  have h0 := I_nn x; have h1 := I_lt x
  go_enter Try.func26, Try.ntmps26
  go_wp2
  go_ret
  exact ⟨congrArg (fun n => Ending.returned (Value.int .u64 n)) (rotv21 x), rfl⟩

theorem left32 (x : BitVec 64) (w : World) : Calls Try.prog 26 #[.int .u64 (I x), .int .u64 32] w fun e w' => e = .returned (.int .u64 (I (rl x 32))) ∧ w = w' := by
  have h0 := I_nn x; have h1 := I_lt x
  go_enter Try.func26, Try.ntmps26
  go_wp2
  go_ret
  exact ⟨congrArg (fun n => Ending.returned (Value.int .u64 n)) (rotv32 x), rfl⟩
end Go.Proofs.Ytiombblclgkigaa
