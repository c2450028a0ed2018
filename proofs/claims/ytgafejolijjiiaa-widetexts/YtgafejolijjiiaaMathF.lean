/- Plain arithmetic: a quotient by a number from 2 to the 64 on is guessed by its highest 64 bits. -/
import Derived.Test.YtgafejolijjiiaaMath
import Derived.Test.YtgafejolijjiiaaMathE
namespace Go.Proofs.Ytgafejolijjiiaa
/-- The highest 64 bits of a number. -/
def top (b : Nat) : Nat := b / 18446744073709551616 * 2 ^ lead (b / 18446744073709551616) + b % 18446744073709551616 / 2 ^ (64 - lead (b / 18446744073709551616))
/-- The guess. -/
def guess (a b : Nat) : Nat := a / 2 / top b / 2 ^ (63 - lead (b / 18446744073709551616))

theorem top_facts (b : Nat) (h : 18446744073709551616 ≤ b) (hb : b < 340282366920938463463374607431768211456) :
    9223372036854775808 ≤ top b ∧ top b < 18446744073709551616 ∧ top b * 2 ^ (64 - lead (b / 18446744073709551616)) ≤ b ∧ b < (top b + 1) * 2 ^ (64 - lead (b / 18446744073709551616)) := by
  have n1 : b / 18446744073709551616 ≠ 0 := by omega
  have n2 : b / 18446744073709551616 < 18446744073709551616 := by omega
  have n3 : b % 18446744073709551616 < 18446744073709551616 := Nat.mod_lt _ (by decide)
  have l1 := lead_le _ n1 n2
  have l2 := lead_low _ n1 n2
  have l3 := lead_high _ n1 n2
  have m1 := moved (b % 18446744073709551616) (lead (b / 18446744073709551616)) (by omega) n3
  have m2 := moved_sum (b / 18446744073709551616) (b % 18446744073709551616) (lead (b / 18446744073709551616)) (by omega) n3
  have m3 := moved_lt (b / 18446744073709551616) (b % 18446744073709551616) (b / 18446744073709551616 + 1) (lead (b / 18446744073709551616)) (by omega) n3 (by omega)
  have pp := pow_parts (lead (b / 18446744073709551616)) (by omega)
  have p0 : 0 < 2 ^ lead (b / 18446744073709551616) := Nat.pow_pos (by decide)
  rw [Nat.div_add_mod' b 18446744073709551616] at m2
  have t : b % 18446744073709551616 * 2 ^ lead (b / 18446744073709551616) % 18446744073709551616 < 18446744073709551616 := Nat.mod_lt _ (by decide)
  have d2 : 2 ^ lead (b / 18446744073709551616) * (b / 18446744073709551616 + 1) ≤ 18446744073709551616 := by
    obtain ⟨c1, c2, c3, c4⟩ := bitLen_bounds _ n1 n2
    have e : 2 ^ Lib.bitLen (b / 18446744073709551616) * 2 ^ lead (b / 18446744073709551616) = 18446744073709551616 := by
      rw [← Nat.pow_add]
      have : Lib.bitLen (b / 18446744073709551616) + lead (b / 18446744073709551616) = 64 := by rw [lead_eq]; omega
      rw [this]
    have c5 := Nat.mul_le_mul_right (2 ^ lead (b / 18446744073709551616)) (show b / 18446744073709551616 + 1 ≤ 2 ^ Lib.bitLen (b / 18446744073709551616) from c4)
    rw [e] at c5
    rw [Nat.mul_comm]
    exact c5
  have m3' : top b < 18446744073709551616 := by
    unfold top
    rw [Nat.mul_comm] at d2
    omega
  refine ⟨by unfold top; omega, m3', ?_, ?_⟩
  · refine Nat.le_of_mul_le_mul_right (c := 2 ^ lead (b / 18446744073709551616)) ?_ p0
    rw [Nat.mul_assoc, pp]
    unfold top
    omega
  · refine Nat.lt_of_mul_lt_mul_right (a := 2 ^ lead (b / 18446744073709551616)) ?_
    rw [Nat.mul_assoc, pp]
    unfold top
    omega

theorem guess_near (a b : Nat) (ha : a < 340282366920938463463374607431768211456) (h : 18446744073709551616 ≤ b) (hb : b < 340282366920938463463374607431768211456) : a / b ≤ guess a b ∧ guess a b ≤ a / b + 1 := by
  obtain ⟨t1, t2, t3, t4⟩ := top_facts b h hb
  have n1 : b / 18446744073709551616 ≠ 0 := by omega
  have n2 : b / 18446744073709551616 < 18446744073709551616 := by omega
  have l1 := lead_le _ n1 n2
  have e : guess a b = a / (top b * 2 ^ (64 - lead (b / 18446744073709551616))) := by
    unfold guess
    rw [Nat.div_div_eq_div_mul, Nat.div_div_eq_div_mul]
    congr 1
    have : 64 - lead (b / 18446744073709551616) = 63 - lead (b / 18446744073709551616) + 1 := by omega
    rw [this, Nat.pow_succ, Nat.mul_left_comm, Nat.mul_comm 2]
  have k : 2 ^ (64 - lead (b / 18446744073709551616)) = 2 ∨ 4 ≤ 2 ^ (64 - lead (b / 18446744073709551616)) := by
    by_cases c : lead (b / 18446744073709551616) = 63
    · left; rw [c]
    · right
      have : 2 ^ 2 ≤ 2 ^ (64 - lead (b / 18446744073709551616)) := Nat.pow_le_pow_right (by decide) (by omega)
      exact this
  rw [e]
  generalize 2 ^ (64 - lead (b / 18446744073709551616)) = K at *
  generalize top b = T at *
  clear e l1 n1 n2
  have kp : 0 < K := by omega
  have dp : 0 < T * K := Nat.mul_pos (by omega) kp
  refine ⟨Nat.div_le_div_left t3 dp, ?_⟩
  have gd := Nat.div_mul_le_self a (T * K)
  generalize a / (T * K) = g at *
  cases g with
  | zero => exact Nat.zero_le _
  | succ p =>
    refine Nat.succ_le_succ ((Nat.le_div_iff_mul_le (by omega)).2 ?_)
    -- p * b ≤ a
    have hK : (p + 1) * (9223372036854775808 * K) ≤ (p + 1) * (T * K) := Nat.mul_le_mul_left _ (Nat.mul_le_mul_right _ t1)
    have hK2 : (p + 1) * (9223372036854775808 * K) = 9223372036854775808 * ((p + 1) * K) := by rw [Nat.mul_left_comm]
    have hsmall : (p + 1) * K < 36893488147419103232 := by omega
    obtain ⟨x, hx⟩ : ∃ x, b = T * K + x := ⟨b - T * K, by omega⟩
    have hxK : x + 1 ≤ K := by rw [Nat.add_mul] at t4; omega
    have s1 : p * b = p * (T * K) + p * x := by rw [hx, Nat.mul_add]
    have s2 : (p + 1) * (T * K) = p * (T * K) + T * K := by rw [Nat.add_mul]; omega
    have px : p * x ≤ T * K := by
      have b1 : 9223372036854775808 * K ≤ T * K := Nat.mul_le_mul_right _ t1
      have b2 : p * x ≤ (p + 1) * x := Nat.mul_le_mul_right _ (by omega)
      have b3 : (p + 1) * x + (p + 1) ≤ (p + 1) * K := by
        have := Nat.mul_le_mul_left (p + 1) hxK
        rw [Nat.mul_add] at this
        omega
      rcases k with k | k
      · have : x = 0 ∨ x = 1 := by omega
        rcases this with rfl | rfl <;> omega
      · omega
    omega

/-- Behind the guess, less by one, the rest tells which it was. -/
theorem guess_mend (a b : Nat) (ha : a < 340282366920938463463374607431768211456) (h : 18446744073709551616 ≤ b) (hb : b < 340282366920938463463374607431768211456) :
    (guess a b - 1) * b ≤ a ∧ (¬ b ≤ a - (guess a b - 1) * b → guess a b - 1 = a / b ∧ a - (guess a b - 1) * b = a % b) ∧
    (b ≤ a - (guess a b - 1) * b → guess a b - 1 + 1 = a / b ∧ a - (guess a b - 1) * b - b = a % b) := by
  obtain ⟨g1, g2⟩ := guess_near a b ha h hb
  generalize guess a b = g at *
  have e := Nat.div_add_mod' a b
  have l := Nat.mod_lt a (show 0 < b by omega)
  have q0 : 0 ≤ a / b := Nat.zero_le _
  have c : g - 1 = a / b ∨ g - 1 + 1 = a / b := by generalize a / b = q at *; omega
  rcases c with c | c
  · rw [c]
    exact ⟨by omega, fun _ => ⟨rfl, by omega⟩, fun _ => by omega⟩
  · rw [← c, Nat.add_mul] at e
    exact ⟨by omega, fun _ => by omega, fun _ => ⟨c, by omega⟩⟩
theorem guess_lt (a b : Nat) (ha : a < 340282366920938463463374607431768211456) (h : 18446744073709551616 ≤ b) (hb : b < 340282366920938463463374607431768211456) : a / 2 / top b < 18446744073709551616 := by
  obtain ⟨t1, t2, t3, t4⟩ := top_facts b h hb
  refine (Nat.div_lt_iff_lt_mul (by omega)).2 ?_
  have : 18446744073709551616 * 9223372036854775808 ≤ 18446744073709551616 * top b := Nat.mul_le_mul_left _ t1
  omega
attribute [irreducible] top guess
end Go.Proofs.Ytgafejolijjiiaa
