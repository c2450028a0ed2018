/- Plain arithmetic of numbers of 128 bits as two words: no program in sight. -/
namespace Go.Proofs.YtnacokogihanoaaDoor.Wd

/-- The upper word. -/
@[irreducible] def hi (n : Nat) : Int := ((n / 18446744073709551616 : Nat) : Int)
/-- The lower word. -/
@[irreducible] def lo (n : Nat) : Int := ((n % 18446744073709551616 : Nat) : Int)
/-- A word. -/
@[irreducible] def Word (x : Int) : Prop := 0 ≤ x ∧ x < 18446744073709551616
theorem Word.mk {x : Int} (h : 0 ≤ x) (k : x < 18446744073709551616) : Word x := by unfold Word; exact ⟨h, k⟩
theorem Word.nn {x : Int} (h : Word x) : 0 ≤ x := by unfold Word at h; exact h.1
theorem Word.lt {x : Int} (h : Word x) : x < 18446744073709551616 := by unfold Word at h; exact h.2
/-- Below 2 to the 128. -/
@[irreducible] def Fits (n : Nat) : Prop := n < 340282366920938463463374607431768211456

theorem hi_nonneg (n : Nat) : 0 ≤ hi n := by unfold hi; omega
theorem lo_nonneg (n : Nat) : 0 ≤ lo n := by unfold lo; omega
theorem lo_lt (n : Nat) : lo n < 18446744073709551616 := by unfold lo; omega
theorem hi_lt {n : Nat} (h : Fits n) : hi n < 18446744073709551616 := by unfold hi Fits at *; omega
theorem word_lo (n : Nat) : Word (lo n) := .mk (lo_nonneg n) (lo_lt n)
theorem word_hi {n : Nat} (h : Fits n) : Word (hi n) := .mk (hi_nonneg n) (hi_lt h)
theorem word_nat {n : Nat} (h : n < 18446744073709551616) : Word n := .mk (by omega) (by omega)
theorem hi_zero : hi 0 = 0 := by unfold hi; rfl
theorem lo_zero : lo 0 = 0 := by unfold lo; rfl
theorem hi_small {n : Nat} (h : n < 18446744073709551616) : hi n = 0 := by unfold hi; omega
theorem lo_small {n : Nat} (h : n < 18446744073709551616) : lo n = n := by unfold lo; omega
theorem eq_of_words {a b : Nat} (h : hi a = hi b) (k : lo a = lo b) : a = b := by unfold hi lo at *; omega
theorem words_of (h l : Int) (h0 : 0 ≤ h) (h1 : h < 18446744073709551616) (l0 : 0 ≤ l) (l1 : l < 18446744073709551616) : ∃ n, Fits n ∧ h = hi n ∧ l = lo n :=
  ⟨(h * 18446744073709551616 + l).toNat, by unfold Fits; omega, by unfold hi; omega, by unfold lo; omega⟩

theorem add_lo (a b : Nat) : (lo a + lo b) % 18446744073709551616 = lo (a + b) := by unfold lo; omega
theorem add_hi (a b : Nat) (h : Fits (a + b)) : (hi a + hi b + (lo a + lo b) / 18446744073709551616) % 18446744073709551616 = hi (a + b) := by unfold hi lo Fits at *; omega
theorem add_no (a b : Nat) (h : Fits (a + b)) : (hi a + hi b + (lo a + lo b) / 18446744073709551616) / 18446744073709551616 = 0 := by unfold hi lo Fits at *; omega
theorem add_yes (a b : Nat) (ha : Fits a) (hb : Fits b) (h : ¬ Fits (a + b)) : (hi a + hi b + (lo a + lo b) / 18446744073709551616) / 18446744073709551616 = 1 := by unfold hi lo Fits at *; omega

/-- -1, 0 or 1. -/
@[irreducible] def sgn (a b : Nat) : Int := if a < b then -1 else if b < a then 1 else 0
/-- The borrow. -/
@[irreducible] def bor (x y : Int) : Int := if x < y then 1 else 0
theorem bor_lo (x y : Int) : 0 ≤ bor x y := by unfold bor; split <;> decide
theorem bor_hi (x y : Int) : bor x y ≤ 1 := by unfold bor; split <;> decide
theorem sub_lo (a b : Nat) (h : b ≤ a) : (lo a - lo b) % 18446744073709551616 = lo (a - b) := by unfold lo; omega
theorem sub_hi (a b : Nat) (ha : Fits a) (h : b ≤ a) : (hi a - hi b - bor (lo a) (lo b)) % 18446744073709551616 = hi (a - b) := by unfold bor hi lo Fits at *; split <;> omega
theorem sub_no (a b : Nat) (h : b ≤ a) : bor (hi a) (hi b + bor (lo a) (lo b)) = 0 := by unfold bor hi lo at *; (repeat' split) <;> omega
theorem sub_yes (a b : Nat) (h : ¬ b ≤ a) : bor (hi a) (hi b + bor (lo a) (lo b)) = 1 := by unfold bor hi lo at *; (repeat' split) <;> omega
/-- The same of two words. -/
@[irreducible] def cmpI (x y : Int) : Int := if x < y then -1 else if y < x then 1 else 0
theorem cmpI_lt {x y : Int} (h : x < y) : cmpI x y = -1 := by unfold cmpI; rw [if_pos h]
theorem cmpI_gt {x y : Int} (h : y < x) : cmpI x y = 1 := by unfold cmpI; rw [if_neg (by omega), if_pos h]
theorem cmpI_eq {x y : Int} (h : ¬ x < y) (k : ¬ y < x) : cmpI x y = 0 := by unfold cmpI; rw [if_neg h, if_neg k]
theorem sgn_eq_hi (a b : Nat) (h : hi a = hi b) : cmpI (lo a) (lo b) = sgn a b := by unfold cmpI sgn hi lo at *; (repeat' split) <;> omega
theorem sgn_ne_hi (a b : Nat) (h : hi a ≠ hi b) : cmpI (hi a) (hi b) = sgn a b := by unfold cmpI sgn hi at *; (repeat' split) <;> omega

theorem toNat_hi (n : Nat) : (hi n).toNat = n / 18446744073709551616 := by unfold hi; omega
theorem toNat_lo (n : Nat) : (lo n).toNat = n % 18446744073709551616 := by unfold lo; omega
theorem split_mul (x1 x0 y1 y0 K : Nat) : (x1 * K + x0) * (y1 * K + y0) = x1 * y1 * (K * K) + (x1 * y0 + x0 * y1) * K + x0 * y0 := by
  rw [Nat.add_mul, Nat.mul_add, Nat.mul_add, Nat.mul_mul_mul_comm, Nat.mul_right_comm x1 K y0, ← Nat.mul_assoc x0 y1 K, Nat.add_mul]
  omega
/-- A product by its words. -/
theorem mul_words (a b : Nat) : a * b = (hi a).toNat * (hi b).toNat * 340282366920938463463374607431768211456 + ((hi a).toNat * (lo b).toNat + (lo a).toNat * (hi b).toNat) * 18446744073709551616 + (lo a).toNat * (lo b).toNat := by
  rw [toNat_hi, toNat_hi, toNat_lo, toNat_lo]
  have h := split_mul (a / 18446744073709551616) (a % 18446744073709551616) (b / 18446744073709551616) (b % 18446744073709551616) 18446744073709551616
  rw [Nat.div_add_mod' a 18446744073709551616, Nat.div_add_mod' b 18446744073709551616] at h
  exact h
theorem mul_both (a b : Nat) (h : hi a ≠ 0) (k : hi b ≠ 0) : ¬ Fits (a * b) := by
  have e := mul_words a b
  have : 1 ≤ (hi a).toNat * (hi b).toNat := by
    have h1 : 1 ≤ (hi a).toNat := by have := hi_nonneg a; omega
    have h2 : 1 ≤ (hi b).toNat := by have := hi_nonneg b; omega
    exact Nat.mul_le_mul h1 h2
  unfold Fits; omega
theorem hi_ne {x : Nat} (h : hi x ≠ 0) : 18446744073709551616 ≤ x := by unfold hi at h; omega
theorem mul_left (a b : Nat) (h : hi ((hi a).toNat * (lo b).toNat) ≠ 0) : ¬ Fits (a * b) := by
  have e := mul_words a b
  have : 18446744073709551616 ≤ (hi a).toNat * (lo b).toNat := hi_ne h
  unfold Fits; omega
theorem mul_right (a b : Nat) (h : hi ((lo a).toNat * (hi b).toNat) ≠ 0) : ¬ Fits (a * b) := by
  have e := mul_words a b
  have : 18446744073709551616 ≤ (lo a).toNat * (hi b).toNat := hi_ne h
  unfold Fits; omega
/-- What is added to the product of the lower words. -/
@[irreducible] def upper (a b : Nat) : Nat := ((hi a).toNat * (lo b).toNat + (lo a).toNat * (hi b).toNat) * 18446744073709551616
theorem lo_upper (a b : Nat) : lo (upper a b) = 0 := by unfold lo upper; omega
theorem zero_mul_or (a b : Nat) (h : ¬ (hi a ≠ 0 ∧ hi b ≠ 0)) : (hi a).toNat * (lo b).toNat = 0 ∨ (lo a).toNat * (hi b).toNat = 0 := by
  by_cases k : hi a = 0
  · left; rw [k]; simp
  · right; have : hi b = 0 := by omega
    rw [this]; simp
theorem hi_upper (a b : Nat) (h : ¬ (hi a ≠ 0 ∧ hi b ≠ 0)) (l : hi ((hi a).toNat * (lo b).toNat) = 0) (r : hi ((lo a).toNat * (hi b).toNat) = 0) :
    (lo ((hi a).toNat * (lo b).toNat) + lo ((lo a).toNat * (hi b).toNat)) % 18446744073709551616 = hi (upper a b) := by
  have := zero_mul_or a b h
  unfold upper
  generalize (hi a).toNat * (lo b).toNat = x at *
  generalize (lo a).toNat * (hi b).toNat = y at *
  unfold hi lo at *
  omega
theorem fits_upper (a b : Nat) (h : ¬ (hi a ≠ 0 ∧ hi b ≠ 0)) (l : hi ((hi a).toNat * (lo b).toNat) = 0) (r : hi ((lo a).toNat * (hi b).toNat) = 0) : Fits (upper a b) := by
  have := zero_mul_or a b h
  unfold upper
  generalize (hi a).toNat * (lo b).toNat = x at *
  generalize (lo a).toNat * (hi b).toNat = y at *
  unfold hi Fits at *
  omega
theorem mul_sum (a b : Nat) (h : ¬ (hi a ≠ 0 ∧ hi b ≠ 0)) : (lo a).toNat * (lo b).toNat + upper a b = a * b := by
  have e := mul_words a b
  have : (hi a).toNat * (hi b).toNat = 0 := by
    by_cases k : hi a = 0
    · rw [k]; simp
    · have : hi b = 0 := by omega
      rw [this]; simp
  unfold upper; omega
theorem fits_lows (a b : Nat) : Fits ((lo a).toNat * (lo b).toNat) := by
  have h1 : (lo a).toNat ≤ 18446744073709551615 := by have := lo_lt a; have := lo_nonneg a; omega
  have h2 : (lo b).toNat ≤ 18446744073709551615 := by have := lo_lt b; have := lo_nonneg b; omega
  have := Nat.mul_le_mul h1 h2
  unfold Fits; omega

/-- Whether a number fits. -/
@[irreducible] def fitsB (n : Nat) : Bool := decide (n < 340282366920938463463374607431768211456)
/-- The number, or 0. -/
@[irreducible] def cut (n : Nat) : Nat := if n < 340282366920938463463374607431768211456 then n else 0
theorem fitsB_yes {n : Nat} (h : Fits n) : fitsB n = true := by unfold fitsB; unfold Fits at h; simpa using h
theorem fitsB_no {n : Nat} (h : ¬ Fits n) : fitsB n = false := by unfold fitsB; unfold Fits at h; simpa using h
theorem cut_yes {n : Nat} (h : Fits n) : cut n = n := by unfold cut; unfold Fits at h; rw [if_pos h]
theorem cut_no {n : Nat} (h : ¬ Fits n) : cut n = 0 := by unfold cut; unfold Fits at h; rw [if_neg h]
theorem fits_cut (n : Nat) : Fits (cut n) := by
  by_cases h : Fits n
  · rw [cut_yes h]; exact h
  · rw [cut_no h]; unfold Fits; decide
end Go.Proofs.YtnacokogihanoaaDoor.Wd
