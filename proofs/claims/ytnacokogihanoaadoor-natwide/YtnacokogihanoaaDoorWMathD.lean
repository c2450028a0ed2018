/- Plain arithmetic: a digit of a quotient is guessed and mended (numbers of two digits to the base 2 to the 32). -/
namespace Go.Proofs.YtnacokogihanoaaDoor.Wd

/-- What holds of the guess at each round's head, but for the bound of the rest. -/
structure Guess (Y u r q rh : Nat) : Prop where
  sum : q * (Y / 4294967296) + rh = u
  low : (u * 4294967296 + r) / Y ≤ q
  high : q ≤ 4294967297

theorem Guess.over {Y u r q : Nat} (hY : 9223372036854775808 ≤ Y) (hr : r < 4294967296) (hq : 4294967296 ≤ q) (hu : u < Y) : (u * 4294967296 + r) / Y < q := by
  have : (u * 4294967296 + r) / Y < 4294967296 := (Nat.div_lt_iff_lt_mul (by omega)).2 (by omega)
  omega
theorem mul_split (q Y : Nat) : q * Y = q * (Y / 4294967296) * 4294967296 + q * (Y % 4294967296) := by
  have h := Nat.div_add_mod' Y 4294967296
  have e : q * Y = q * (Y / 4294967296 * 4294967296 + Y % 4294967296) := by rw [h]
  rw [e, Nat.mul_add, Nat.mul_assoc]
theorem Guess.more {Y u r q rh : Nat} (g : Guess Y u r q rh) (hY : 9223372036854775808 ≤ Y) (h : 4294967296 * rh + r < q * (Y % 4294967296)) : (u * 4294967296 + r) / Y < q := by
  refine (Nat.div_lt_iff_lt_mul (by omega)).2 ?_
  have e := mul_split q Y
  have s := g.sum
  omega
theorem Guess.hit {Y u r q rh : Nat} (g : Guess Y u r q rh) (hY : 9223372036854775808 ≤ Y) (h : q * (Y % 4294967296) ≤ 4294967296 * rh + r) : q = (u * 4294967296 + r) / Y := by
  refine Nat.le_antisymm ((Nat.le_div_iff_mul_le (by omega)).2 ?_) g.low
  have e := mul_split q Y
  have s := g.sum
  omega
theorem Guess.past {Y u r q rh : Nat} (g : Guess Y u r q rh) (hY : 9223372036854775808 ≤ Y) (h : 4294967296 ≤ rh) : q = (u * 4294967296 + r) / Y := by
  refine g.hit hY ?_
  have h1 : Y % 4294967296 ≤ 4294967295 := by omega
  have h2 := Nat.mul_le_mul g.high h1
  omega
theorem Guess.less {Y u r q rh : Nat} (g : Guess Y u r (q + 1) rh) (h : (u * 4294967296 + r) / Y < q + 1) : Guess Y u r q (rh + Y / 4294967296) := by
  refine ⟨?_, by omega, by have := g.high; omega⟩
  have s := g.sum
  rw [Nat.add_mul] at s
  omega
theorem Guess.first {Y u r : Nat} (hY : 9223372036854775808 ≤ Y) (hu : u < Y) (hr : r < 4294967296) (hY' : Y < 18446744073709551616) : Guess Y u r (u / (Y / 4294967296)) (u % (Y / 4294967296)) := by
  have hy : 2147483648 ≤ Y / 4294967296 := by omega
  refine ⟨Nat.div_add_mod' _ _, ?_, ?_⟩
  · have h1 : u < (u / (Y / 4294967296) + 1) * (Y / 4294967296) := by
      have := Nat.div_add_mod' u (Y / 4294967296)
      have := Nat.mod_lt u (show 0 < Y / 4294967296 by omega)
      rw [Nat.add_mul]; omega
    refine Nat.le_of_lt_succ ((Nat.div_lt_iff_lt_mul (by omega)).2 ?_)
    have e := mul_split (u / (Y / 4294967296) + 1) Y
    show _ < (u / (Y / 4294967296) + 1) * Y
    omega
  · refine Nat.le_of_lt_succ ((Nat.div_lt_iff_lt_mul (by omega)).2 ?_)
    have h2 : 4294967298 * (Y / 4294967296) = 4294967296 * (Y / 4294967296) + 2 * (Y / 4294967296) := by omega
    show u < 4294967298 * (Y / 4294967296)
    omega
/-- Two digits are the quotient. -/
theorem two_digits {U y P Y u a b q1 q0 r1 : Nat} (hP : 0 < P) (hy : 0 < y) (hY : Y = y * P) (hU : u * 18446744073709551616 + (a * 4294967296 + b) = U * P)
    (h1 : q1 = (u * 4294967296 + a) / Y) (hr : r1 = (u * 4294967296 + a) % Y) (h0 : q0 = (r1 * 4294967296 + b) / Y) : q1 * 4294967296 + q0 = U / y ∧ (r1 * 4294967296 + b) % Y / P = U % y := by
  have hp : 0 < Y := by rw [hY]; exact Nat.mul_pos hy hP
  have e1 := Nat.div_add_mod' (u * 4294967296 + a) Y
  have e2 := Nat.div_add_mod' (r1 * 4294967296 + b) Y
  have l2 := Nat.mod_lt (r1 * 4294967296 + b) hp
  rw [← h1, ← hr] at e1
  rw [← h0] at e2
  have e3 : U * P = (q1 * 4294967296 + q0) * Y + (r1 * 4294967296 + b) % Y := by
    rw [Nat.add_mul, Nat.mul_right_comm]
    omega
  have d : U / y = q1 * 4294967296 + q0 := by
    have : U * P / (y * P) = U / y := Nat.mul_div_mul_right _ _ hP
    rw [← this, ← hY, e3, Nat.add_comm, Nat.add_mul_div_right _ _ hp, Nat.div_eq_of_lt l2, Nat.zero_add]
  have m : U % y * P = (r1 * 4294967296 + b) % Y := by
    have : U * P % (y * P) = U % y * P := Nat.mul_mod_mul_right _ _ _
    rw [← this, ← hY, e3, Nat.add_comm, Nat.add_mul_mod_self_right, Nat.mod_eq_of_lt l2]
  exact ⟨d.symm, by rw [← m]; exact Nat.mul_div_cancel _ hP⟩
end Go.Proofs.YtnacokogihanoaaDoor.Wd
