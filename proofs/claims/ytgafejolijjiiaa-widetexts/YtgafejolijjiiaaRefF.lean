/- The walks of the document's answers: bit, half, halfUp. -/
import Derived.Test.YtgafejolijjiiaaRefD
namespace Go.Proofs.Ytgafejolijjiiaa
open Go.RowKit
set_option linter.unusedSimpArgs false
set_option linter.unusedVariables false

/-- A bit of a number. -/
@[irreducible] def bitI (n i : Nat) : Int := ((n / 2 ^ i % 2 : Nat) : Int)
theorem bitI_eq (n i : Nat) : bitI n i = ((n / 2 ^ i % 2 : Nat) : Int) := by unfold bitI; rfl
theorem bit_low (n i : Nat) (h : i < 64) : lo n / 2 ^ i % 2 = bitI n i := by
  rw [bitI_eq, (nat_words n).2]
  have e : ((n % 18446744073709551616 : Nat) : Int) / 2 ^ i = ((n % 18446744073709551616 / 2 ^ i : Nat) : Int) := high_part _ _
  rw [e]
  have p : (18446744073709551616 : Nat) = 2 ^ i * 2 ^ (64 - i) := by
    rw [← Nat.pow_add]
    have : i + (64 - i) = 64 := by omega
    rw [this]
  have q : 2 ^ (64 - i) = 2 * 2 ^ (63 - i) := by
    have : 64 - i = 63 - i + 1 := by omega
    rw [this, Nat.pow_succ, Nat.mul_comm]
  have m : n % 18446744073709551616 / 2 ^ i % 2 = n / 2 ^ i % 2 := by
    rw [p, Nat.mod_mul_right_div_self, q, Nat.mod_mul_right_mod]
  have c : (((n % 18446744073709551616 / 2 ^ i : Nat) : Int)) % 2 = ((n % 18446744073709551616 / 2 ^ i % 2 : Nat) : Int) := by omega
  rw [c, m]
theorem bit_high (n i : Nat) : hi n / 2 ^ i % 2 = bitI n (i + 64) := by
  rw [bitI_eq, (nat_words n).1]
  have e : ((n / 18446744073709551616 : Nat) : Int) / 2 ^ i = ((n / 18446744073709551616 / 2 ^ i : Nat) : Int) := high_part _ _
  rw [e]
  have p : 2 ^ (i + 64) = 18446744073709551616 * 2 ^ i := by rw [Nat.pow_add, Nat.mul_comm]
  rw [p, ← Nat.div_div_eq_div_mul]
  omega

set_option maxHeartbeats 1000000 in
set_option maxRecDepth 100000 in
theorem refBit_low (n i : Nat) (h : i < 64) (w : World) : Calls Try.prog 35 #[U n, .int .i64 (i : Int)] w fun e w' => e = .returned (.int .u64 (bitI n i)) ∧ Below w.heap.size w w' := by
  have E := Lib.hid (bit_low n i h)
  have h1 : (i : Int) < 64 := by omega
  have l0 := lo_nonneg n
  go_enter Try.func35, Try.ntmps35
  go_wp2_with fail
  go_light
  have T : (lo n / 2 ^ i).tmod 2 = bitI n i := by
    rw [Int.tmod_eq_emod_of_nonneg]
    · exact E.out
    · exact Int.ediv_nonneg l0 (Int.le_of_lt (Int.pow_pos (by decide)))
  rw [T]
  go_ret
  exact ⟨rfl, (Below.refl _ _).alloc (Nat.le_refl _) _⟩
set_option maxHeartbeats 1000000 in
set_option maxRecDepth 100000 in
theorem refBit_high (n i : Nat) (h : i < 64) (w : World) : Calls Try.prog 35 #[U n, .int .i64 ((i : Int) + 64)] w fun e w' => e = .returned (.int .u64 (bitI n (i + 64))) ∧ Below w.heap.size w w' := by
  have E := Lib.hid (bit_high n i)
  have h1 : ¬ (i : Int) + 64 < 64 := by omega
  have h2 : (i : Int) < 64 := by omega
  have l0 := hi_nonneg n
  go_enter Try.func35, Try.ntmps35
  go_wp2_with fail
  go_light
  have T : (hi n / 2 ^ i).tmod 2 = bitI n (i + 64) := by
    rw [Int.tmod_eq_emod_of_nonneg]
    · exact E.out
    · exact Int.ediv_nonneg l0 (Int.le_of_lt (Int.pow_pos (by decide)))
  rw [T]
  go_ret
  exact ⟨rfl, (Below.refl _ _).alloc (Nat.le_refl _) _⟩
set_option maxHeartbeats 1000000 in
theorem refHalf_any (n : Nat) (hn : Fits n) (w : World) : Calls Try.prog 41 #[U n] w fun e w' => e = .returned (U (n / 2)) ∧ Below w.heap.size w w' := by
  have h0 := hi_nonneg n; have l0 := lo_nonneg n; have h1 := hi_lt hn; have l1 := lo_lt n
  have E1 := Lib.hid (half_hi n)
  have E2 : Hid (lo n / 2 + hi n % 2 * 9223372036854775808 = lo (n / 2)) := by unfold Hid hi lo; omega
  go_enter Try.func41, Try.ntmps41
  go_wp2_with fail
  go_light
  rw [E1.out, E2.out]
  exact bodyPost_ret (v := U (n / 2)) (by simp [results, Try.results41, go_sem]) rfl ⟨rfl, ((Below.refl _ _).alloc (Nat.le_refl _) _).alloc (by simp) _⟩
end Go.Proofs.Ytgafejolijjiiaa
