/- Bits of words of 32 and 64 bits; how many bits a number has. -/
import Derived.Laws.BitsAllLaws
import Derived.Laws.BitsLemmas
import Derived.Lib.BitFns
import Derived.Test.YthhphbaimpcjfaaNumB
namespace Go.Proofs.Ythhphbaimpcjfaa
open Go

theorem ofInt_u32 (a : Nat) (ha : a < 4294967296) : (BitVec.ofInt 32 (a : Int)).toNat = a := by
  rw [BitVec.ofInt_natCast, BitVec.toNat_ofNat]; exact Nat.mod_eq_of_lt (by omega)
theorem ofInt_u64 (a : Nat) (ha : a < 18446744073709551616) : (BitVec.ofInt 64 (a : Int)).toNat = a := by
  rw [BitVec.ofInt_natCast, BitVec.toNat_ofNat]; exact Nat.mod_eq_of_lt (by omega)
theorem u32_and_nat (a b : Nat) (ha : a < 4294967296) (hb : b < 4294967296) : bits .and .u32 (a : Int) (b : Int) = ((a &&& b : Nat) : Int) := by
  have hx : a &&& b < 2 ^ 32 := Nat.and_lt_two_pow _ (by omega)
  show IntKind.u32.wrap ((BitVec.ofInt 32 (a : Int) &&& BitVec.ofInt 32 (b : Int)).toNat : Int) = _
  rw [BitVec.toNat_and, ofInt_u32 a ha, ofInt_u32 b hb, IntKind.wrap_u32]
  omega
theorem u32_or_nat (a b : Nat) (ha : a < 4294967296) (hb : b < 4294967296) : bits .or .u32 (a : Int) (b : Int) = ((a ||| b : Nat) : Int) := by
  have hx : a ||| b < 2 ^ 32 := Nat.or_lt_two_pow (by omega) (by omega)
  show IntKind.u32.wrap ((BitVec.ofInt 32 (a : Int) ||| BitVec.ofInt 32 (b : Int)).toNat : Int) = _
  rw [BitVec.toNat_or, ofInt_u32 a ha, ofInt_u32 b hb, IntKind.wrap_u32]
  omega
theorem u32_xor_nat (a b : Nat) (ha : a < 4294967296) (hb : b < 4294967296) : bits .xor .u32 (a : Int) (b : Int) = ((a ^^^ b : Nat) : Int) := by
  have hx : a ^^^ b < 2 ^ 32 := Nat.xor_lt_two_pow (by omega) (by omega)
  show IntKind.u32.wrap ((BitVec.ofInt 32 (a : Int) ^^^ BitVec.ofInt 32 (b : Int)).toNat : Int) = _
  rw [BitVec.toNat_xor, ofInt_u32 a ha, ofInt_u32 b hb, IntKind.wrap_u32]
  omega
theorem u64_or_nat (a b : Nat) (ha : a < 18446744073709551616) (hb : b < 18446744073709551616) : bits .or .u64 (a : Int) (b : Int) = ((a ||| b : Nat) : Int) := by
  have hx : a ||| b < 2 ^ 64 := Nat.or_lt_two_pow (by omega) (by omega)
  show IntKind.u64.wrap ((BitVec.ofInt 64 (a : Int) ||| BitVec.ofInt 64 (b : Int)).toNat : Int) = _
  rw [BitVec.toNat_or, ofInt_u64 a ha, ofInt_u64 b hb, IntKind.wrap_u64]
  omega
theorem u32_max : IntKind.u32.max = ((4294967295 : Nat) : Int) := by decide
/-- What lies apart is added. -/
theorem or_apart (x y k : Nat) (hy : y < 2 ^ k) : x * 2 ^ k ||| y = x * 2 ^ k + y := by
  rw [Nat.mul_comm, ← Nat.two_pow_add_eq_or_of_lt hy]
theorem u64_or_up (x y : Nat) (hx : x < 4294967296) (hy : y < 4294967296) : bits .or .u64 ((x : Int) * 4294967296) (y : Int) = (x : Int) * 4294967296 + (y : Int) := by
  have e : (x : Int) * 4294967296 = ((x * 4294967296 : Nat) : Int) := by omega
  rw [e, u64_or_nat _ _ (by omega) (by omega)]
  have := or_apart x y 32 (by omega)
  rw [show (2 : Nat) ^ 32 = 4294967296 by decide] at this
  omega

theorem tb31 (x : Nat) (h : x < 4294967296) : x.testBit 31 = decide (2147483648 ≤ x) := by
  rw [Nat.testBit_eq_decide_div_mod_eq]
  have : x / 2 ^ 31 % 2 = 1 ↔ 2147483648 ≤ x := by omega
  simp only [this]
theorem top31 (x : Nat) (h : x < 4294967296) : x / 2147483648 = if x.testBit 31 = true then 1 else 0 := by
  rw [tb31 x h]
  by_cases k : 2147483648 ≤ x
  · rw [if_pos (by simpa using k)]; omega
  · rw [if_neg (by simpa using k)]; omega
/-- 1 or 0. -/
@[irreducible] def bor (x y : Nat) : Nat := if x < y then 1 else 0
theorem bor_yes {x y : Nat} (h : x < y) : bor x y = 1 := by unfold bor; rw [if_pos h]
theorem bor_no {x y : Nat} (h : ¬ x < y) : bor x y = 0 := by unfold bor; rw [if_neg h]
theorem bor_le (x y : Nat) : bor x y ≤ 1 := by unfold bor; split <;> omega
theorem borrow_top (x y c d : Nat) (hx : x < 4294967296) (hy : y < 4294967296) (hc : c ≤ 1) (hd : d = (x + 4294967296 + 4294967296 - y - c) % 4294967296) :
    (((4294967295 ^^^ x) &&& y) ||| ((4294967295 ^^^ (x ^^^ y)) &&& d)) / 2147483648 = bor x (y + c) := by
  have hd' : d < 4294967296 := by rw [hd]; exact Nat.mod_lt _ (by decide)
  have l1 : (4294967295 ^^^ x) &&& y < 2 ^ 32 := Nat.and_lt_two_pow _ (by omega)
  have l2 : (4294967295 ^^^ (x ^^^ y)) &&& d < 2 ^ 32 := Nat.and_lt_two_pow _ (by omega)
  rw [top31 _ (Nat.or_lt_two_pow l1 l2), Nat.testBit_or, Nat.testBit_and, Nat.testBit_and, Nat.testBit_xor, Nat.testBit_xor, Nat.testBit_xor, tb31 x hx, tb31 y hy, tb31 d hd', show (4294967295 : Nat).testBit 31 = true by decide]
  unfold bor
  by_cases a : 2147483648 ≤ x <;> by_cases b : 2147483648 ≤ y <;> by_cases e : 2147483648 ≤ d <;> simp [a, b, e] <;> omega

/-- How many bits a number has. -/
def bl (n : Nat) : Nat := if h : n = 0 then 0 else bl (n / 2) + 1
termination_by n
decreasing_by exact Nat.div_lt_self (Nat.pos_of_ne_zero h) (by decide)
theorem bl_zero : bl 0 = 0 := by rw [bl]; rfl
theorem bl_pos {n : Nat} (h : n ≠ 0) : bl n = bl (n / 2) + 1 := by rw [bl, dif_neg h]
theorem lt_bl (n : Nat) : n < 2 ^ bl n := by
  induction n using Nat.strongRecOn with
  | _ n ih =>
    by_cases h : n = 0
    · rw [h, bl_zero]; decide
    · rw [bl_pos h, Nat.pow_succ]
      have := ih (n / 2) (Nat.div_lt_self (Nat.pos_of_ne_zero h) (by decide))
      omega
theorem le_bl {n : Nat} (h : n ≠ 0) : 2 ^ (bl n - 1) ≤ n := by
  induction n using Nat.strongRecOn with
  | _ n ih =>
    rw [bl_pos h, Nat.add_sub_cancel]
    by_cases k : n / 2 = 0
    · rw [k, bl_zero]; simp; omega
    · have := ih (n / 2) (Nat.div_lt_self (Nat.pos_of_ne_zero h) (by decide)) k
      have e := bl_pos k
      rw [e, Nat.add_sub_cancel] at this
      rw [e, Nat.pow_succ]
      omega
theorem pow_lt_pow_iff {a b : Nat} (h : 2 ^ a < 2 ^ b) : a < b := (Nat.pow_lt_pow_iff_right (by decide)).1 h
theorem bl_of {n k : Nat} (h1 : 2 ^ k ≤ n) (h2 : n < 2 ^ (k + 1)) : bl n = k + 1 := by
  have hn : n ≠ 0 := by have := Nat.two_pow_pos k; omega
  have a := lt_bl n
  have b := le_bl hn
  have p1 := pow_lt_pow_iff (Nat.lt_of_le_of_lt h1 a)
  have p2 := pow_lt_pow_iff (Nat.lt_of_le_of_lt b h2)
  have := bl_pos hn
  omega
theorem bl_le {n k : Nat} (h : n < 2 ^ k) : bl n ≤ k := by
  by_cases hn : n = 0
  · rw [hn, bl_zero]; omega
  · have p := pow_lt_pow_iff (Nat.lt_of_le_of_lt (le_bl hn) h)
    omega
theorem bitLen_bl (x : Nat) (h : x < 18446744073709551616) : Lib.bitLen x = bl x := by
  induction x using Nat.strongRecOn with
  | _ x ih =>
    by_cases hx : x = 0
    · subst hx; rw [bl_zero]; decide
    · rw [Lib.bitLen_half x hx (by omega), bl_pos hx, ih (x / 2) (Nat.div_lt_self (Nat.pos_of_ne_zero hx) (by decide)) (by omega), Nat.add_comm]
theorem B_pow (k : Nat) : B ^ k = 2 ^ (32 * k) := by rw [B_eq, show (4294967296 : Nat) = 2 ^ 32 by decide, Nat.pow_mul]
theorem bl_add_mul {t P k x : Nat} (ht : t < 2 ^ k) (hP : P = 2 ^ k) (hx : x ≠ 0) : bl (t + P * x) = k + bl x := by
  have a := lt_bl x
  have b := le_bl hx
  have e := bl_pos hx
  subst hP
  have e2 : k + bl x = (k + (bl x - 1)) + 1 := by omega
  rw [e2]
  refine bl_of ?_ ?_
  · rw [Nat.pow_add]
    have := Nat.mul_le_mul_left (2 ^ k) b
    omega
  · rw [← e2, Nat.pow_add]
    have := Nat.mul_le_mul_left (2 ^ k) (show x + 1 ≤ 2 ^ bl x by omega)
    rw [Nat.mul_add] at this
    omega
theorem bl_limbs {a k : Nat} (hk : k + 1 = (limbs a).length) : bl a = k * 32 + bl ((limbs a)[k]'(by omega)) := by
  have e := val_split (limbs a) k (by omega)
  have d := val_drop (limbs a) k (by omega)
  have z : (limbs a).drop (k + 1) = [] := List.drop_of_length_le (by omega)
  rw [z, val_nil, Nat.mul_zero, Nat.add_zero] at d
  rw [val_limbs, d] at e
  have l := val_take_limbs_lt a k
  conv => lhs; rw [e]
  rw [bl_add_mul (k := 32 * k) (by rw [← B_pow]; exact l) (B_pow k) (last_ne_zero hk), Nat.mul_comm]
end Go.Proofs.Ythhphbaimpcjfaa
