/- The fixed answers of the stage. -/
import Derived.Test.YtiombblclgkigaaSG
namespace Go.Proofs.Ytiombblclgkigaa
open Go.RowKit
set_option maxHeartbeats 4000000
set_option maxRecDepth 100000
theorem kA : (506097522914230528 : Int) = I 506097522914230528#64 := kI 506097522914230528 (by decide)
theorem kB : (1084818905618843912 : Int) = I 1084818905618843912#64 := kI 1084818905618843912 (by decide)
theorem kX : I 8246050544436514353#64 = 8246050544436514353 := (kI 8246050544436514353 (by decide)).symm
theorem kY : I 11613035633349379557#64 = 11613035633349379557 := (kI 11613035633349379557 (by decide)).symm
theorem seedA : seed 506097522914230528#64 1084818905618843912#64 = .agg #[.int .u64 506097522914230528, .int .u64 1084818905618843912] := by rw [kA, kB]
theorem hash0 : hash 506097522914230528#64 1084818905618843912#64 [] = 8246050544436514353#64 := by decide +kernel
theorem hash15 : hash 506097522914230528#64 1084818905618843912#64 [0, 1, 2, 3, 4, 5, 6, 7, 8, 9, 10, 11, 12, 13, 14] = 11613035633349379557#64 := by decide +kernel
theorem awake_any (w : World) : Calls Try.prog 8 #[] w fun e w' => e = .returned (.bool true) ∧ Below w.heap.size w w' := by
  have K0 := Lib.hid (sum_any 506097522914230528#64 1084818905618843912#64 ⟨#[]⟩ (by decide))
  have K1 := Lib.hid (sum_any 506097522914230528#64 1084818905618843912#64 ⟨#[0, 1, 2, 3, 4, 5, 6, 7, 8, 9, 10, 11, 12, 13, 14]⟩ (by decide))
  rw [show L ⟨#[]⟩ = [] from rfl, hash0, kX, seedA] at K0
  rw [show L ⟨#[0, 1, 2, 3, 4, 5, 6, 7, 8, 9, 10, 11, 12, 13, 14]⟩ = [0, 1, 2, 3, 4, 5, 6, 7, 8, 9, 10, 11, 12, 13, 14] from rfl, hash15, kY, seedA] at K1
  go_enter Try.func8, Try.ntmps8
  go_wp2_with fail
  refine (K0.out _).mono ?_
  rintro e W1 ⟨rfl, B1⟩
  have M := (One.new w #[.int .u64 506097522914230528, .int .u64 1084818905618843912] 24).next B1
  clear B1
  obtain ⟨g, hg⟩ : ∃ g, g = w.heap.size := ⟨_, rfl⟩
  rw [← hg] at M
  rw [← hg]
  clear hg
  obtain ⟨c0, c1⟩ := M.bg.two
  go_wp2_with fail
  refine (K1.out _).mono ?_
  rintro e W2 ⟨rfl, B1⟩
  replace M := M.next B1
  go_wp2_with fail
  go_ret
  exact ⟨rfl, M.bl⟩
end Go.Proofs.Ytiombblclgkigaa
