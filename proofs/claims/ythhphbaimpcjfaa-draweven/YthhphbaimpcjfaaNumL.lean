/- Plain arithmetic for the laws: how long sums and products are. -/
import Derived.Test.YthhphbaimpcjfaaNumC
namespace Go.Proofs.Ythhphbaimpcjfaa
theorem ln_mul {a b n m : Nat} (ha : ln a ≤ n) (hb : ln b ≤ m) : ln (a * b) ≤ n + m := by
  refine ln_le ?_
  rw [Nat.pow_add]
  have h1 := Nat.lt_of_lt_of_le (lt_ln a) (Nat.pow_le_pow_right B_pos ha)
  have h2 := Nat.lt_of_lt_of_le (lt_ln b) (Nat.pow_le_pow_right B_pos hb)
  exact Nat.mul_lt_mul'' h1 h2
theorem ln_add {a b n : Nat} (ha : ln a ≤ n) (hb : ln b ≤ n) : ln (a + b) ≤ n + 1 := by
  refine ln_le ?_
  rw [Nat.pow_succ]
  have h1 := Nat.lt_of_lt_of_le (lt_ln a) (Nat.pow_le_pow_right B_pos ha)
  have h2 := Nat.lt_of_lt_of_le (lt_ln b) (Nat.pow_le_pow_right B_pos hb)
  have h3 : B ^ n * 2 ≤ B ^ n * B := Nat.mul_le_mul_left _ (by rw [B_eq]; decide)
  omega
theorem bl_mono {a b : Nat} (h : a ≤ b) : bl a ≤ bl b := bl_le (Nat.lt_of_le_of_lt h (lt_bl b))
theorem bl_eq_zero {a : Nat} (h : bl a = 0) : a = 0 := by
  apply Decidable.byContradiction
  intro k
  have := bl_pos k
  omega
theorem bl_mul {a b : Nat} (ha : a ≠ 0) (hb : b ≠ 0) : bl (a * b) = bl a + bl b ∨ bl (a * b) + 1 = bl a + bl b := by
  have a1 := lt_bl a; have a2 := le_bl ha; have a3 := bl_pos ha
  have b1 := lt_bl b; have b2 := le_bl hb; have b3 := bl_pos hb
  have hi : a * b < 2 ^ (bl a + bl b) := by rw [Nat.pow_add]; exact Nat.mul_lt_mul'' a1 b1
  have lo : 2 ^ (bl a - 1 + (bl b - 1)) ≤ a * b := by rw [Nat.pow_add]; exact Nat.mul_le_mul a2 b2
  have u := bl_le hi
  have nz : a * b ≠ 0 := Nat.mul_ne_zero ha hb
  have l : bl a - 1 + (bl b - 1) < bl (a * b) := pow_lt_pow_iff (Nat.lt_of_le_of_lt lo (lt_bl _))
  omega
theorem bl_add (a b : Nat) : max (bl a) (bl b) ≤ bl (a + b) ∧ bl (a + b) ≤ max (bl a) (bl b) + 1 := by
  have m1 := bl_mono (show a ≤ a + b by omega)
  have m2 := bl_mono (show b ≤ a + b by omega)
  refine ⟨Nat.max_le.2 ⟨m1, m2⟩, bl_le ?_⟩
  rw [Nat.pow_succ]
  have h1 := Nat.lt_of_lt_of_le (lt_bl a) (Nat.pow_le_pow_right (n := 2) (by decide) (Nat.le_max_left (bl a) (bl b)))
  have h2 := Nat.lt_of_lt_of_le (lt_bl b) (Nat.pow_le_pow_right (n := 2) (by decide) (Nat.le_max_right (bl a) (bl b)))
  omega
theorem bl_ln {a : Nat} {n : Nat} (h : ln a ≤ n) : bl a ≤ 32 * n := by
  refine bl_le ?_
  rw [← B_pow]
  exact Nat.lt_of_lt_of_le (lt_ln a) (Nat.pow_le_pow_right B_pos h)
end Go.Proofs.Ythhphbaimpcjfaa
