/- Plain numbers: the halves of words. -/
import Derived.Test.YthhphbaimpcjfaaDN2
import Derived.Test.YthhphbaimpcjfaaNumH
namespace Go.Proofs.Ythhphbaimpcjfaa

theorem half0 (x r : Nat) : (x + 18446744073709551616 * r) / 1 % 65536 = x / 1 % 65536 := by omega
theorem half1 (x r : Nat) : (x + 18446744073709551616 * r) / 65536 % 65536 = x / 65536 % 65536 := by omega
theorem half2 (x r : Nat) : (x + 18446744073709551616 * r) / 4294967296 % 65536 = x / 4294967296 % 65536 := by omega
theorem half3 (x r : Nat) : (x + 18446744073709551616 * r) / 281474976710656 % 65536 = x / 281474976710656 % 65536 := by omega
/-- Half t of words. -/
theorem wv_half {ws : List Nat} (l : Lw ws) (b j : Nat) (h : b < ws.length) (hj : j < 4) : wv ws / 2 ^ (16 * (4 * b + j)) % 65536 = ws[b] / 65536 ^ j % 65536 := by
  have e := wv_div l b h
  have s : 16 * (4 * b + j) = 64 * b + 16 * j := by omega
  rw [s, Nat.pow_add, ← P64_pow, ← Nat.div_div_eq_div_mul, e, P64_eq, Nat.pow_mul, show (2 : Nat) ^ 16 = 65536 from by decide]
  have : j = 0 ∨ j = 1 ∨ j = 2 ∨ j = 3 := by omega
  rcases this with rfl | rfl | rfl | rfl
  · exact half0 _ _
  · exact half1 _ _
  · exact half2 _ _
  · exact half3 _ _
theorem H16_two (t : Nat) : H16 ^ t = 2 ^ (16 * t) := by rw [H16_eq, Nat.pow_mul]
theorem mod16_min (x k : Nat) (h : k ≤ 16) : x % 65536 % 2 ^ k = x % 2 ^ k := by
  rw [show (65536 : Nat) = 2 ^ 16 from by decide]
  exact Nat.mod_mod_of_dvd x (Nat.pow_dvd_pow 2 h)
/-- So many halves, masked: the number below. -/
theorem half_step {N k t v x : Nat} (hv : v = N % 2 ^ min (16 * t) k) (hx : x = N / 2 ^ (16 * t) % 65536) : v + H16 ^ t * (x % 2 ^ min 16 (k - 16 * t)) = N % 2 ^ min (16 * (t + 1)) k := by
  rw [hx, mod16_min _ _ (by omega), hv, H16_two]
  by_cases h : 16 * t ≤ k
  · rw [show min (16 * (t + 1)) k = 16 * t + min 16 (k - 16 * t) by omega, Nat.min_eq_left h, mod_step]
  · rw [show k - 16 * t = 0 by omega, show min (16 * t) k = k by omega, show min (16 * (t + 1)) k = k by omega, show min 16 0 = 0 from rfl, Nat.pow_zero, Nat.mod_one, Nat.mul_zero, Nat.add_zero]
theorem shift_word (x j : Nat) : x / 65536 ^ j / 65536 = x / 65536 ^ (j + 1) := by rw [Nat.div_div_eq_div_mul, Nat.pow_succ]
/-- The half that is appended. -/
@[irreducible] def hfd (x q : Nat) : Nat := x % 65536 % 2 ^ min 16 q
theorem hfd_eq (x q : Nat) : hfd x q = x % 65536 % 2 ^ min 16 q := by unfold hfd; rfl
theorem hfd_lt (x q : Nat) : hfd x q < 65536 := by
  rw [hfd_eq]
  exact Nat.lt_of_le_of_lt (Nat.mod_le _ _) (Nat.mod_lt _ (by decide))
theorem hfd_step {N k t v x : Nat} (hv : v = N % 2 ^ min (16 * t) k) (hx : x % 65536 = N / 2 ^ (16 * t) % 65536) : v + H16 ^ t * hfd x (k - 16 * t) = N % 2 ^ min (16 * (t + 1)) k := by
  rw [hfd_eq]; exact half_step hv hx
theorem pow16_le (m : Nat) (h : m ≤ 16) : 2 ^ m ≤ 65536 := by
  have := Nat.pow_le_pow_right (n := 2) (by decide) h
  rwa [show (2 : Nat) ^ 16 = 65536 from by decide] at this
end Go.Proofs.Ythhphbaimpcjfaa
