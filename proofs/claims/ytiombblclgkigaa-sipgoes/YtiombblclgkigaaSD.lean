/- number of the program. -/
import Derived.Test.YtiombblclgkigaaSM
import Derived.Test.YtiombblclgkigaaSL
namespace Go.Proofs.Ytiombblclgkigaa
open Go.RowKit
set_option maxHeartbeats 2000000
set_option maxRecDepth 100000
theorem number_any (s : ByteArray) (hs : s.size ≤ 8) (w : World) : Calls Try.prog 24 #[.string s] w fun e w' => e = .returned (.int .u64 (I (num (L s)))) ∧ w = w' := by
  go_enter Try.func24, Try.ntmps24
  go_wp2_with fail
  go_loopg [3, 7] s.size (fun q s3 s7 wr => ∃ k : Nat, k + q = s.size ∧ s7 = .int .i64 (k : Int) ∧ s3 = .int .u64 (I (num ((L s).take k))) ∧ w = wr)
  case atStart => exact ⟨0, by omega, rfl, by rw [List.take_zero, num_nil, ← kI0], rfl⟩
  case round =>
    obtain ⟨k, hq, rfl, rfl, rfl⟩ := hrel
    have HQ := Lib.hid hq
    by_cases lt : k < s.size
    · have il : (k : Int) < s.size := by omega
      have il0 : (0 : Int) ≤ k := by omega
      have k8 : (k : Int) < 8 := by omega
      have et : (L s).take (k + 1) = (L s).take k ++ [s[k]] := List.take_succ_eq_append_getElem (by rw [L_len]; exact lt)
      have E : Hid (num ((L s).take (k + 1)) = num ((L s).take k) ||| BitVec.ofNat 64 s[k].toNat <<< (8 * k)) := by
        unfold Hid; rw [et, num_snoc _ (by rw [List.length_take, L_len]; omega), List.length_take, L_len, Nat.min_eq_left (by omega)]
      generalize num ((L s).take k) = r at *
      clear hq et
      go_wp2_with fail
      rw [orByte]
      go_roundg (gk - 1)
      case measure => have := HQ.out; omega
      case rel =>
        go_light
        exact ⟨k + 1, by have := HQ.out; omega, by go_num, by rw [E.out], rfl⟩
    · obtain rfl : s.size = k := by omega
      have il : ¬ (s.size : Int) < s.size := by omega
      have E : Hid ((L s).take s.size = L s) := List.take_of_length_le (by rw [L_len]; exact Nat.le_refl _)
      clear hq
      go_wp2_with fail
      go_ret
      exact ⟨by rw [E.out]; rfl, rfl⟩
end Go.Proofs.Ytiombblclgkigaa
