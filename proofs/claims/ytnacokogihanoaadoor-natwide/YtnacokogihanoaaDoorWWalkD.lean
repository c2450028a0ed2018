/- The walks of wide.divShort, divLong and Div. -/
import Derived.Test.YtnacokogihanoaaDoorWWalkB
import Derived.Test.YtnacokogihanoaaDoorWWalkC
import Derived.WalkSmall
namespace Go.Proofs.YtnacokogihanoaaDoor.Wd
open Go.RowKit
set_option linter.unusedSimpArgs false
set_option linter.unusedVariables false

theorem words_sum (z x : Nat) (h : x < 18446744073709551616) : hi (z * 18446744073709551616 + x) = (z : Int) ∧ lo (z * 18446744073709551616 + x) = (x : Int) := by
  unfold hi lo; omega
theorem short_parts (n k : Nat) (hk : 0 < k) : hi (n / k) = hi n / (k : Int) ∧ (((n / 18446744073709551616 % k) * 18446744073709551616 + n % 18446744073709551616) / k : Nat) = (lo (n / k)) ∧ ((n / 18446744073709551616 % k) * 18446744073709551616 + n % 18446744073709551616) % k = n % k := by
  have h1 := Nat.div_add_mod' n 18446744073709551616
  have h2 := Nat.div_add_mod' (n / 18446744073709551616) k
  have lr := Nat.mod_lt (n / 18446744073709551616) hk
  have ll := Nat.mod_lt n (show 0 < 18446744073709551616 by decide)
  have e : n = (n / 18446744073709551616 / k * 18446744073709551616) * k + ((n / 18446744073709551616 % k) * 18446744073709551616 + n % 18446744073709551616) := by
    rw [Nat.mul_right_comm]; omega
  have small : ((n / 18446744073709551616 % k) * 18446744073709551616 + n % 18446744073709551616) / k < 18446744073709551616 := by
    refine (Nat.div_lt_iff_lt_mul hk).2 ?_
    have : (n / 18446744073709551616 % k + 1) * 18446744073709551616 ≤ k * 18446744073709551616 := Nat.mul_le_mul_right _ (by omega)
    rw [Nat.mul_comm 18446744073709551616 k]; omega
  have d : n / k = n / 18446744073709551616 / k * 18446744073709551616 + ((n / 18446744073709551616 % k) * 18446744073709551616 + n % 18446744073709551616) / k := by
    conv => lhs; rw [e]
    rw [Nat.add_comm, Nat.add_mul_div_right _ _ hk, Nat.add_comm]
  rw [d]
  refine ⟨?_, ?_, ?_⟩
  · rw [(words_sum _ _ small).1]
    unfold hi
    exact Int.natCast_ediv _ _
  · exact (words_sum _ _ small).2.symm
  · conv => rhs; rw [e]
    rw [Nat.mul_add_mod']

set_option maxHeartbeats 1000000 in
set_option maxRecDepth 100000 in
/-- wide.divShort. -/
theorem divShort_nat (n k : Nat) (hn : Fits n) (hk : 0 < k) (hk' : k < 18446744073709551616) (w : World) :
    Calls Tryd.prog 72 #[U n, .int .u64 k] w fun e w' => e = .returned (.tuple #[U (n / k), .int .u64 (lo (n % k))]) ∧ Below w.heap.size w w' := by
  obtain ⟨P1, P2, P3⟩ := short_parts n k hk
  have k0 : ((k : Int) == 0) = false := by simp; omega
  have n0 := hi_nonneg n
  obtain ⟨r, hr⟩ : ∃ r, n / 18446744073709551616 % k = r := ⟨_, rfl⟩
  have rk : r < k := by rw [← hr]; exact Nat.mod_lt _ hk
  have hz : hi n % (k : Int) = (r : Int) := by rw [← hr]; unfold hi; rw [← Int.natCast_emod]
  have E1 : (hi n).tmod (k : Int) = (r : Int) := by rw [Int.tmod_eq_emod_of_nonneg n0]; exact hz
  have E3 : hi n / (k : Int) = hi (n / k) := P1.symm
  have E4 : (hi n).tdiv (k : Int) = hi (n / k) := by rw [Int.tdiv_eq_ediv_of_nonneg n0]; exact P1.symm
  have f0 : Fits (n / k) := by unfold Fits at *; have := Nat.div_le_self n k; omega
  have E5 : IntKind.u64.wrap (hi (n / k)) = hi (n / k) := by rw [IntKind.wrap_u64]; have := hi_nonneg (n / k); have := hi_lt f0; omega
  have wr : Word (r : Int) := word_nat (by omega)
  have wl := word_lo n
  have wk : Word (k : Int) := word_nat hk'
  have rk' : (r : Int) < (k : Int) := by omega
  have Q1 : Hid (((((r : Int).toNat * 18446744073709551616 + (lo n).toNat) / (k : Int).toNat : Nat) : Int) = lo (n / k)) := by
    unfold Hid; rw [Int.toNat_natCast, Int.toNat_natCast, toNat_lo, ← hr]; exact P2
  have Q2 : Hid (((((r : Int).toNat * 18446744073709551616 + (lo n).toNat) % (k : Int).toNat : Nat) : Int) = lo (n % k)) := by
    unfold Hid; rw [Int.toNat_natCast, Int.toNat_natCast, toNat_lo, ← hr, P3, lo_small (by have := Nat.mod_lt n hk; omega)]
  have HK := Lib.hid hk; have HK' := Lib.hid hk'; have RK := Lib.hid rk; have RK' := Lib.hid rk'
  clear P1 P2 P3 hr hk' rk rk' hn
  have dv := fun w => div64_any (r : Int) (lo n) (k : Int) wr wl wk RK'.out w
  rw [Q1.out, Q2.out] at dv
  have DV := Lib.hid dv
  clear dv
  go_enter Tryd.func72, Tryd.ntmps72
  go_wp2_with fail
  go_quiet ((go_at_call 97; exact Calls.quiet_of (DV.out _)))
  go_wp2_with fail
  exact bodyPost_ret (v := .tuple #[U (n / k), .int .u64 (lo (n % k))]) (by simp [results, Tryd.results72, go_sem]) rfl ⟨rfl, by
    refine Below.setCell (Below.setCell (below_drewN ?_ _) (by simp) _) (by simp) _
    exact ((Below.refl _ _).alloc (Nat.le_refl _) _).alloc (by simp) _⟩
end Go.Proofs.YtnacokogihanoaaDoor.Wd
