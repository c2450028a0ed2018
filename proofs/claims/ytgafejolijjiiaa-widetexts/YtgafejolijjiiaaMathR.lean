/- Plain arithmetic: digits of sixteen bits. -/
import Derived.Test.YtgafejolijjiiaaMath
namespace Go.Proofs.Ytgafejolijjiiaa
set_option linter.unusedVariables false
/-- The i-th digit of sixteen bits. -/
@[irreducible] def dgN (n i : Nat) : Nat := n / 65536 ^ i % 65536
@[irreducible] def dg (n i : Nat) : Int := (dgN n i : Int)
theorem dg_nat (n i : Nat) : dg n i = (dgN n i : Int) := by unfold dg; rfl
theorem dgN_lt (n i : Nat) : dgN n i < 65536 := by unfold dgN; exact Nat.mod_lt _ (by decide)
theorem dgN_eq (n i : Nat) : dgN n i = n / 65536 ^ i % 65536 := by unfold dgN; rfl
theorem dg_nonneg (n i : Nat) : 0 ≤ dg n i := by rw [dg_nat]; omega
theorem dg_lt (n i : Nat) : dg n i < 65536 := by rw [dg_nat]; have := dgN_lt n i; omega
theorem dg_lo (n : Nat) : lo n % 65536 = dg n 0 ∧ lo n / 65536 % 65536 = dg n 1 ∧ lo n / 4294967296 % 65536 = dg n 2 ∧ lo n / 281474976710656 % 65536 = dg n 3 := by
  unfold dg dgN lo
  refine ⟨?_, ?_, ?_, ?_⟩ <;> simp only [Nat.reducePow] <;> omega
theorem dg_hi (n : Nat) (h : Fits n) : hi n % 65536 = dg n 4 ∧ hi n / 65536 % 65536 = dg n 5 ∧ hi n / 4294967296 % 65536 = dg n 6 ∧ hi n / 281474976710656 % 65536 = dg n 7 := by
  unfold dg dgN hi Fits at *
  refine ⟨?_, ?_, ?_, ?_⟩ <;> simp only [Nat.reducePow] <;> omega
/-- The number of eight digits. -/
@[irreducible] def num (d : Nat → Int) : Nat := (d 0).toNat + (d 1).toNat * 65536 + (d 2).toNat * 4294967296 + (d 3).toNat * 281474976710656 + (d 4).toNat * 18446744073709551616 + (d 5).toNat * 1208925819614629174706176 + (d 6).toNat * 79228162514264337593543950336 + (d 7).toNat * 5192296858534827628530496329220096
theorem num_dg (n : Nat) (h : Fits n) : num (dg n) = n := by
  unfold num
  simp only [dg_nat, Int.toNat_natCast, dgN_eq]
  unfold Fits at h
  simp only [Nat.reducePow]
  omega
theorem num_congr {d e : Nat → Int} (h : ∀ j, j < 8 → d j = e j) : num d = num e := by
  unfold num
  rw [h 0 (by decide), h 1 (by decide), h 2 (by decide), h 3 (by decide), h 4 (by decide), h 5 (by decide), h 6 (by decide), h 7 (by decide)]
theorem words_two (L H : Nat) (hL : L < 18446744073709551616) (hH : H < 18446744073709551616) : Fits (H * 18446744073709551616 + L) ∧ lo (H * 18446744073709551616 + L) = (L : Int) ∧ hi (H * 18446744073709551616 + L) = (H : Int) := by
  unfold Fits lo hi; omega
theorem num_words (d : Nat → Int) (h : ∀ j, j < 8 → 0 ≤ d j ∧ d j < 65536) : Fits (num d) ∧ lo (num d) = ((d 3 * 65536 + d 2) * 65536 + d 1) * 65536 + d 0 ∧ hi (num d) = ((d 7 * 65536 + d 6) * 65536 + d 5) * 65536 + d 4 := by
  obtain ⟨a0, b0⟩ := h 0 (by decide); obtain ⟨a1, b1⟩ := h 1 (by decide); obtain ⟨a2, b2⟩ := h 2 (by decide); obtain ⟨a3, b3⟩ := h 3 (by decide)
  obtain ⟨a4, b4⟩ := h 4 (by decide); obtain ⟨a5, b5⟩ := h 5 (by decide); obtain ⟨a6, b6⟩ := h 6 (by decide); obtain ⟨a7, b7⟩ := h 7 (by decide)
  have e : num d = ((((d 7).toNat * 65536 + (d 6).toNat) * 65536 + (d 5).toNat) * 65536 + (d 4).toNat) * 18446744073709551616 + ((((d 3).toNat * 65536 + (d 2).toNat) * 65536 + (d 1).toNat) * 65536 + (d 0).toNat) := by
    unfold num; omega
  have w := words_two ((((d 3).toNat * 65536 + (d 2).toNat) * 65536 + (d 1).toNat) * 65536 + (d 0).toNat) ((((d 7).toNat * 65536 + (d 6).toNat) * 65536 + (d 5).toNat) * 65536 + (d 4).toNat) (by omega) (by omega)
  rw [e]
  refine ⟨w.1, w.2.1.trans ?_, w.2.2.trans ?_⟩
  · omega
  · omega

/-- What is carried into the k-th digit of a sum. -/
@[irreducible] def carry (a b k : Nat) : Nat := (a % 65536 ^ k + b % 65536 ^ k) / 65536 ^ k
theorem carry_zero (a b : Nat) : carry a b 0 = 0 := by unfold carry; simp [Nat.mod_one]
theorem carry_le (a b k : Nat) : carry a b k ≤ 1 := by
  unfold carry
  have p : 0 < 65536 ^ k := Nat.pow_pos (by decide)
  have h1 := Nat.mod_lt a p
  have h2 := Nat.mod_lt b p
  refine Nat.le_of_lt_succ ((Nat.div_lt_iff_lt_mul p).2 ?_)
  omega
theorem mod_step (a k : Nat) : a % 65536 ^ (k + 1) = a % 65536 ^ k + dgN a k * 65536 ^ k := by
  rw [dgN_eq, Nat.pow_succ, Nat.mod_mul, Nat.mul_comm (a / 65536 ^ k % 65536)]
theorem sum_step (a b k : Nat) : dgN a k + dgN b k + carry a b k = dgN (a + b) k + 65536 * carry a b (k + 1) := by
  have p : 0 < 65536 ^ k := Nat.pow_pos (by decide)
  have ea := mod_step a k
  have eb := mod_step b k
  have hc : carry a b k = (a % 65536 ^ k + b % 65536 ^ k) / 65536 ^ k := by unfold carry; rfl
  have hc1 : carry a b (k + 1) = (a % 65536 ^ (k + 1) + b % 65536 ^ (k + 1)) / 65536 ^ (k + 1) := by unfold carry; rfl
  have e1 : carry a b (k + 1) = (dgN a k + dgN b k + carry a b k) / 65536 := by
    rw [hc1, ea, eb, Nat.pow_succ, ← Nat.div_div_eq_div_mul]
    have : a % 65536 ^ k + dgN a k * 65536 ^ k + (b % 65536 ^ k + dgN b k * 65536 ^ k) = (a % 65536 ^ k + b % 65536 ^ k) + (dgN a k + dgN b k) * 65536 ^ k := by rw [Nat.add_mul]; omega
    rw [this, Nat.add_mul_div_right _ _ p, ← hc, Nat.add_comm]
  have e2 : dgN (a + b) k = (dgN a k + dgN b k + carry a b k) % 65536 := by
    have sa := Nat.div_add_mod' a (65536 ^ k)
    have sb := Nat.div_add_mod' b (65536 ^ k)
    have : (a + b) / 65536 ^ k = a / 65536 ^ k + b / 65536 ^ k + carry a b k := by
      have : a + b = (a % 65536 ^ k + b % 65536 ^ k) + (a / 65536 ^ k + b / 65536 ^ k) * 65536 ^ k := by rw [Nat.add_mul]; omega
      rw [this, Nat.add_mul_div_right _ _ p, hc]
      omega
    rw [dgN_eq, dgN_eq, dgN_eq, this]
    omega
  omega
theorem carry_fits (a b : Nat) (h : Fits (a + b)) : carry a b 8 = 0 := by
  have e : (65536 : Nat) ^ 8 = 340282366920938463463374607431768211456 := by decide
  unfold carry Fits at *
  rw [e]; omega
theorem carry_over (a b : Nat) (ha : Fits a) (hb : Fits b) (h : ¬ Fits (a + b)) : carry a b 8 = 1 := by
  have e : (65536 : Nat) ^ 8 = 340282366920938463463374607431768211456 := by decide
  unfold carry Fits at *
  rw [e]; omega

/-- What is owed at the k-th digit of a difference. -/
@[irreducible] def owed (a b k : Nat) : Nat := if a % 65536 ^ k < b % 65536 ^ k then 1 else 0
theorem owed_zero (a b : Nat) : owed a b 0 = 0 := by unfold owed; simp [Nat.mod_one]
theorem owed_le (a b k : Nat) : owed a b k ≤ 1 := by unfold owed; split <;> omega
theorem diff_step (a b k : Nat) (h : b ≤ a) : 65536 + dgN a k = dgN (a - b) k + dgN b k + owed a b k + 65536 * (1 - owed a b (k + 1)) := by
  -- the sum of what is taken away and what is left
  have s := sum_step (a - b) b k
  have e : a - b + b = a := by omega
  rw [e] at s
  have key : ∀ k, carry (a - b) b k = owed a b k := by
    intro k
    have p : 0 < 65536 ^ k := Nat.pow_pos (by decide)
    have h1 := Nat.mod_lt (a - b) p
    have h2 := Nat.mod_lt b p
    have h3 := Nat.mod_lt a p
    have m : ((a - b) % 65536 ^ k + b % 65536 ^ k) % 65536 ^ k = a % 65536 ^ k := by
      rw [← Nat.add_mod, e]
    unfold carry owed
    generalize (a - b) % 65536 ^ k = x at *
    generalize b % 65536 ^ k = y at *
    generalize a % 65536 ^ k = z at *
    generalize 65536 ^ k = B at *
    by_cases c : x + y < B
    · rw [Nat.mod_eq_of_lt c] at m
      rw [if_neg (by omega), Nat.div_eq_of_lt c]
    · have : (x + y) % B = x + y - B := by rw [Nat.mod_eq_sub_mod (by omega), Nat.mod_eq_of_lt (by omega)]
      rw [if_pos (by omega)]
      have : (x + y) / B = 1 := by
        rw [Nat.div_eq_iff p]
        omega
      exact this
  rw [key, key] at s
  have := owed_le a b (k + 1)
  omega
end Go.Proofs.Ytgafejolijjiiaa
