/- Turned to the left: RotateLeft64, left. -/
import Derived.Test.YtiombblclgkigaaShelf
import Derived.Test.YtiombblclgkigaaSNum
import Derived.WalkSpells
namespace Go.Proofs.Ytiombblclgkigaa
open Go.RowKit
set_option maxHeartbeats 1000000
set_option maxRecDepth 100000

theorem and63_13 : bits BinOp.and IntKind.u64 13 63 = 13 := by decide
theorem rotv13 (x : BitVec 64) : bits BinOp.or IntKind.u64 (IntKind.u64.wrap (I x * 8192)) (I x / 2251799813685248) = I (rl x 13) := by
  rw [← rl_of x 13 8192 2251799813685248 (by decide) (by decide)]
theorem rot13 (x : BitVec 64) (w : World) : Calls Try.prog 28 #[.int .u64 (I x), .int .i64 13] w fun e w' => e = .returned (.int .u64 (I (rl x 13))) ∧ w = w' := by
  have h0 := I_nn x; have h1 := I_lt x
  go_enter Try.func28, Try.ntmps28
  go_wp2_with (rw [and63_13])
  go_ret
  exact ⟨congrArg (fun n => Ending.returned (Value.int .u64 n)) (rotv13 x), rfl⟩

theorem and63_16 : bits BinOp.and IntKind.u64 16 63 = 16 := by decide
theorem rotv16 (x : BitVec 64) : bits BinOp.or IntKind.u64 (IntKind.u64.wrap (I x * 65536)) (I x / 281474976710656) = I (rl x 16) := by
  rw [← rl_of x 16 65536 281474976710656 (by decide) (by decide)]
theorem rot16 (x : BitVec 64) (w : World) : Calls Try.prog 28 #[.int .u64 (I x), .int .i64 16] w fun e w' => e = .returned (.int .u64 (I (rl x 16))) ∧ w = w' := by
  have h0 := I_nn x; have h1 := I_lt x
  go_enter Try.func28, Try.ntmps28
  go_wp2_with (rw [and63_16])
  go_ret
  exact ⟨congrArg (fun n => Ending.returned (Value.int .u64 n)) (rotv16 x), rfl⟩

theorem and63_17 : bits BinOp.and IntKind.u64 17 63 = 17 := by decide
theorem rotv17 (x : BitVec 64) : bits BinOp.or IntKind.u64 (IntKind.u64.wrap (I x * 131072)) (I x / 140737488355328) = I (rl x 17) := by
  rw [← rl_of x 17 131072 140737488355328 (by decide) (by decide)]
theorem rot17 (x : BitVec 64) (w : World) : Calls Try.prog 28 #[.int .u64 (I x), .int .i64 17] w fun e w' => e = .returned (.int .u64 (I (rl x 17))) ∧ w = w' := by
  have h0 := I_nn x; have h1 := I_lt x
  go_enter Try.func28, Try.ntmps28
  go_wp2_with (rw [and63_17])
  go_ret
  exact ⟨congrArg (fun n => Ending.returned (Value.int .u64 n)) (rotv17 x), rfl⟩

theorem and63_21 : bits BinOp.and IntKind.u64 21 63 = 21 := by decide
theorem rotv21 (x : BitVec 64) : bits BinOp.or IntKind.u64 (IntKind.u64.wrap (I x * 2097152)) (I x / 8796093022208) = I (rl x 21) := by
  rw [← rl_of x 21 2097152 8796093022208 (by decide) (by decide)]
theorem rot21 (x : BitVec 64) (w : World) : Calls Try.prog 28 #[.int .u64 (I x), .int .i64 21] w fun e w' => e = .returned (.int .u64 (I (rl x 21))) ∧ w = w' := by
  have h0 := I_nn x; have h1 := I_lt x
  go_enter Try.func28, Try.ntmps28
  go_wp2_with (rw [and63_21])
  go_ret
  exact ⟨congrArg (fun n => Ending.returned (Value.int .u64 n)) (rotv21 x), rfl⟩

theorem and63_32 : bits BinOp.and IntKind.u64 32 63 = 32 := by decide
theorem rotv32 (x : BitVec 64) : bits BinOp.or IntKind.u64 (IntKind.u64.wrap (I x * 4294967296)) (I x / 4294967296) = I (rl x 32) := by
  rw [← rl_of x 32 4294967296 4294967296 (by decide) (by decide)]
theorem rot32 (x : BitVec 64) (w : World) : Calls Try.prog 28 #[.int .u64 (I x), .int .i64 32] w fun e w' => e = .returned (.int .u64 (I (rl x 32))) ∧ w = w' := by
  have h0 := I_nn x; have h1 := I_lt x
  go_enter Try.func28, Try.ntmps28
  go_wp2_with (rw [and63_32])
  go_ret
  exact ⟨congrArg (fun n => Ending.returned (Value.int .u64 n)) (rotv32 x), rfl⟩
end Go.Proofs.Ytiombblclgkigaa
