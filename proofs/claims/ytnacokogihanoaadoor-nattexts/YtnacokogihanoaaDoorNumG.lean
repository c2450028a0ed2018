/- Plain arithmetic: twice a number and a bit, half a number; limbs by their length. -/
import Derived.Test.YtnacokogihanoaaDoorNumH
import Derived.Test.YtnacokogihanoaaDoorNumC
import Derived.Test.YtnacokogihanoaaDoorWalkI
namespace Go.Proofs.YtnacokogihanoaaDoor
/-- Limbs whose number needs them all are those of their number. -/
theorem limbs_full {zs : List Nat} (lo : Lo zs) (h : zs = [] ∨ B ^ (zs.length - 1) ≤ val zs) : limbs (val zs) = zs := by
  refine limbs_val lo fun hn z => ?_
  rcases h with h | h
  · exact hn h
  · have e := List.dropLast_concat_getLast hn
    rw [z] at e
    have l := val_lt (xs := zs.dropLast) (fun y hy => lo y (List.dropLast_subset _ hy))
    rw [← e, val_snoc, Nat.mul_zero, Nat.add_zero, List.length_append, List.length_dropLast, List.length_singleton, Nat.add_sub_cancel] at h
    rw [List.length_dropLast] at l
    omega
theorem or_bit (x k : Nat) (hk : k ≤ 1) : bits BinOp.or IntKind.u32 (((x * 2 % 4294967296 : Nat)) : Int) (k : Int) = ((x * 2 % 4294967296 + k : Nat) : Int) := by
  have e := or_low x k 1 (by decide) (by omega)
  rw [Nat.pow_one] at e
  rw [u32_or_nat _ _ (Nat.mod_lt _ (by decide)) (by omega), Nat.or_comm, e, Nat.add_comm]
theorem or_top (x y : Nat) (hx : x < 4294967296) : bits BinOp.or IntKind.u32 (((x / 2 : Nat)) : Int) (((y * 2147483648 % 4294967296 : Nat)) : Int) = ((x / 2 + y % 2 * 2147483648 : Nat) : Int) := by
  have e := or_low y (x / 2) 31 (by decide) (by omega)
  rw [show (2 : Nat) ^ 31 = 2147483648 from rfl] at e
  rw [u32_or_nat _ _ (by omega) (Nat.mod_lt _ (by decide)), e]
  exact congrArg Nat.cast (by omega)
/-- A step of twice. -/
theorem tw_step {P s v x k b : Nat} (h : v + P * k = 2 * s + b) : v + P * (x * 2 % 4294967296 + k) + P * 4294967296 * (x / 2147483648) = 2 * (s + P * x) + b := by
  have e : x * 2 % 4294967296 + 4294967296 * (x / 2147483648) = 2 * x := by omega
  have : P * (x * 2 % 4294967296) + P * 4294967296 * (x / 2147483648) = 2 * (P * x) := by
    rw [Nat.mul_assoc, ← Nat.mul_add, e, Nat.mul_left_comm]
  rw [Nat.mul_add, Nat.mul_add]
  omega
/-- A step of half. -/
theorem hf_step (x V : Nat) : (x + 4294967296 * V) / 2 = x / 2 + V % 2 * 2147483648 + 4294967296 * (V / 2) := by omega
theorem val_mod_two (xs : List Nat) : val xs % 2 = lat xs 0 % 2 := by
  cases xs with
  | nil => rfl
  | cons x r =>
    rw [val_cons, B_eq]
    show _ = x % 2
    omega
theorem bit_down (a p : Nat) : a / 2 ^ p = 2 * (a / 2 ^ (p + 1)) + a / 2 ^ p % 2 := by
  rw [Nat.pow_succ, ← Nat.div_div_eq_div_mul]; omega
/-- A step of a division, bit by bit. -/
theorem dv_step {b q r s k : Nat} (hs : s = b * q + r) (hr : r < b) : (b ≤ 2 * r + k → k ≤ 1 → (2 * s + k) / b = 2 * q + 1 ∧ (2 * s + k) % b = 2 * r + k - b) ∧ (¬ b ≤ 2 * r + k → (2 * s + k) / b = 2 * q + 0 ∧ (2 * s + k) % b = 2 * r + k) := by
  have hb : 0 < b := by omega
  constructor
  · intro h hk
    have e : 2 * s + k = (2 * r + k - b) + b * (2 * q + 1) := by
      rw [hs, Nat.mul_add, Nat.mul_add, Nat.mul_one, Nat.mul_left_comm]; omega
    rw [e, Nat.add_mul_div_left _ _ hb, Nat.add_mul_mod_self_left, Nat.div_eq_of_lt (by omega), Nat.mod_eq_of_lt (by omega)]
    exact ⟨by omega, rfl⟩
  · intro h
    have e : 2 * s + k = (2 * r + k) + b * (2 * q) := by
      rw [hs, Nat.mul_add, Nat.mul_left_comm]; omega
    rw [e, Nat.add_mul_div_left _ _ hb, Nat.add_mul_mod_self_left, Nat.div_eq_of_lt (by omega), Nat.mod_eq_of_lt (by omega)]
    exact ⟨by omega, rfl⟩
/-- Steps of gcd. -/
theorem gcd_both (a b : Nat) (ha : a % 2 = 0) (hb : b % 2 = 0) : Nat.gcd a b = 2 * Nat.gcd (a / 2) (b / 2) := by
  rw [← Nat.gcd_mul_left, show 2 * (a / 2) = a by omega, show 2 * (b / 2) = b by omega]
theorem gcd_left (a b : Nat) (ha : a % 2 = 0) (hb : b % 2 = 1) : Nat.gcd (a / 2) b = Nat.gcd a b := by
  have c : Nat.Coprime 2 b := by
    rw [Nat.coprime_iff_gcd_eq_one, Nat.gcd_rec, hb]; decide
  have := Nat.Coprime.gcd_mul_left_cancel (a / 2) c
  rw [show 2 * (a / 2) = a by omega] at this
  exact this.symm
theorem gcd_right (a b : Nat) (ha : a % 2 = 1) (hb : b % 2 = 0) : Nat.gcd a (b / 2) = Nat.gcd a b := by
  rw [Nat.gcd_comm a, Nat.gcd_comm a, gcd_left b a hb ha]
theorem gcd_less (a b : Nat) (h : b ≤ a) : Nat.gcd (a - b) b = Nat.gcd a b := Nat.gcd_sub_self_left h
end Go.Proofs.YtnacokogihanoaaDoor
