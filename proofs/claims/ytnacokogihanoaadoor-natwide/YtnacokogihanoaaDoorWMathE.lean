/- Plain arithmetic: a number is moved to the left till its highest bit is set. -/
import Derived.Lib.ItoaNum
namespace Go.Proofs.YtnacokogihanoaaDoor.Wd
/-- By how many bits. -/
def lead (y : Nat) : Nat := 64 - Lib.bitLen y
theorem lead_eq (y : Nat) : lead y = 64 - Lib.bitLen y := rfl
theorem bitLen_bounds (y : Nat) (h : y ≠ 0) (k : y < 18446744073709551616) : 1 ≤ Lib.bitLen y ∧ Lib.bitLen y ≤ 64 ∧ 2 ^ (Lib.bitLen y - 1) ≤ y ∧ y < 2 ^ Lib.bitLen y := by
  obtain ⟨a, b, c⟩ := Lib.bitLenAux_bounds 64 y k h
  exact ⟨a, Lib.bitLen_le y 64 (Nat.le_refl _) k, b, c⟩
theorem lead_le (y : Nat) (h : y ≠ 0) (k : y < 18446744073709551616) : lead y ≤ 63 := by
  have := bitLen_bounds y h k; unfold lead; omega
theorem lead_cast (y : Nat) (h : y ≠ 0) (k : y < 18446744073709551616) : (64 : Int) - (Lib.bitLen y : Int) = (lead y : Int) := by
  have := bitLen_bounds y h k; unfold lead; omega
theorem lead_low (y : Nat) (h : y ≠ 0) (k : y < 18446744073709551616) : 9223372036854775808 ≤ y * 2 ^ lead y := by
  obtain ⟨a, b, c, d⟩ := bitLen_bounds y h k
  have e : 2 ^ (Lib.bitLen y - 1) * 2 ^ lead y = 9223372036854775808 := by
    rw [← Nat.pow_add]
    have : Lib.bitLen y - 1 + lead y = 63 := by unfold lead; omega
    rw [this]
  have := Nat.mul_le_mul_right (2 ^ lead y) c
  omega
theorem lead_high (y : Nat) (h : y ≠ 0) (k : y < 18446744073709551616) : y * 2 ^ lead y < 18446744073709551616 := by
  obtain ⟨a, b, c, d⟩ := bitLen_bounds y h k
  have e : 2 ^ Lib.bitLen y * 2 ^ lead y = 18446744073709551616 := by
    rw [← Nat.pow_add]
    have : Lib.bitLen y + lead y = 64 := by unfold lead; omega
    rw [this]
  have := Nat.mul_lt_mul_of_lt_of_le d (Nat.le_refl (2 ^ lead y)) (Nat.pow_pos (by decide))
  omega
theorem or_add (a b s : Nat) (h : b < 2 ^ s) : a * 2 ^ s ||| b = a * 2 ^ s + b := by
  rw [← Nat.shiftLeft_eq, ← Nat.shiftLeft_add_eq_or_of_lt h]
theorem pow_parts (s : Nat) (h : s ≤ 64) : 2 ^ (64 - s) * 2 ^ s = 18446744073709551616 := by
  rw [← Nat.pow_add]
  have : 64 - s + s = 64 := by omega
  rw [this]
/-- The parts of a number that is moved. -/
theorem moved (l s : Nat) (h : s ≤ 64) (hl : l < 18446744073709551616) : l / 2 ^ (64 - s) < 2 ^ s ∧ l / 2 ^ (64 - s) * 18446744073709551616 + l * 2 ^ s % 18446744073709551616 = l * 2 ^ s := by
  have hp := pow_parts s h
  have p0 : 0 < 2 ^ (64 - s) := Nat.pow_pos (by decide)
  have p1 : 0 < 2 ^ s := Nat.pow_pos (by decide)
  refine ⟨(Nat.div_lt_iff_lt_mul p0).2 (by rw [Nat.mul_comm, hp]; exact hl), ?_⟩
  have e : l * 2 ^ s / 18446744073709551616 = l / 2 ^ (64 - s) := by
    rw [← hp, Nat.mul_div_mul_right _ _ p1]
  rw [← e]
  exact Nat.div_add_mod' _ _
theorem moved_sum (h l s : Nat) (hs : s ≤ 64) (hl : l < 18446744073709551616) :
    (h * 2 ^ s + l / 2 ^ (64 - s)) * 18446744073709551616 + l * 2 ^ s % 18446744073709551616 = (h * 18446744073709551616 + l) * 2 ^ s := by
  have := (moved l s hs hl).2
  rw [Nat.add_mul, Nat.add_mul, Nat.mul_right_comm]
  omega
theorem moved_lt (h l y s : Nat) (hs : s ≤ 64) (hl : l < 18446744073709551616) (hy : h < y) : h * 2 ^ s + l / 2 ^ (64 - s) < y * 2 ^ s := by
  have := (moved l s hs hl).1
  have := Nat.mul_le_mul_right (2 ^ s) (show h + 1 ≤ y from hy)
  rw [Nat.add_mul] at this
  omega
attribute [irreducible] lead
end Go.Proofs.YtnacokogihanoaaDoor.Wd
