/- Plain numbers: the limbs, and the halves, of words; masks. -/
import Derived.Test.YthhphbaimpcjfaaDNum
namespace Go.Proofs.Ythhphbaimpcjfaa

theorem wv_drop (xs : List Nat) (k : Nat) (h : k < xs.length) : wv (xs.drop k) = xs[k] + P64 * wv (xs.drop (k + 1)) := by
  rw [List.drop_eq_getElem_cons h, wv_cons]
theorem wv_div {ws : List Nat} (l : Lw ws) (a : Nat) (h : a < ws.length) : wv ws / P64 ^ a = ws[a] + P64 * wv (ws.drop (a + 1)) := by
  have e := wv_split ws a (by omega)
  rw [wv_drop ws a h] at e
  have b := wv_lt (l.take a)
  rw [List.length_take, Nat.min_eq_left (by omega)] at b
  rw [e, Nat.add_mul_div_left _ _ (Nat.pow_pos P64_pos), Nat.div_eq_of_lt b, Nat.zero_add]
theorem P64_pow (a : Nat) : P64 ^ a = 2 ^ (64 * a) := by rw [P64_two, ← Nat.pow_mul]
theorem limb_low (x r : Nat) : (x + 18446744073709551616 * r) % 4294967296 = x % 4294967296 := by omega
theorem limb_high (x r : Nat) : (x + 18446744073709551616 * r) / 4294967296 % 4294967296 = x / 4294967296 % 4294967296 := by omega
/-- Limb i of words. -/
theorem wv_limb {ws : List Nat} (l : Lw ws) (i : Nat) (h : i / 2 < ws.length) : wv ws / 2 ^ (32 * i) % 4294967296 = ws[i / 2] / 2 ^ (i % 2 * 32) % 4294967296 := by
  have e := wv_div l (i / 2) h
  have s : 32 * i = 64 * (i / 2) + i % 2 * 32 := by omega
  rw [s, Nat.pow_add, ← P64_pow, ← Nat.div_div_eq_div_mul, e, P64_eq]
  have : i % 2 = 0 ∨ i % 2 = 1 := by omega
  rcases this with k | k
  · rw [k, Nat.zero_mul, Nat.pow_zero, Nat.div_one, Nat.div_one]; exact limb_low _ _
  · rw [k, Nat.one_mul, show (2 : Nat) ^ 32 = 4294967296 from by decide]; exact limb_high _ _
theorem mod_step (N m j : Nat) : N % 2 ^ (m + j) = N % 2 ^ m + 2 ^ m * (N / 2 ^ m % 2 ^ j) := by rw [Nat.pow_add, Nat.mod_mul]
theorem mod_mod_min (x k : Nat) (h : k ≤ 32) : x % 4294967296 % 2 ^ k = x % 2 ^ k := by
  rw [show (4294967296 : Nat) = 2 ^ 32 from by decide]
  exact Nat.mod_mod_of_dvd x (Nat.pow_dvd_pow 2 h)
theorem min_step (k i : Nat) : min (32 * (i + 1)) k = min (32 * i) k + min 32 (k - 32 * i) := by omega
/-- So many limbs, masked: the number below. -/
theorem mask_step {N k i v x : Nat} (hv : v = N % 2 ^ min (32 * i) k) (hi : 32 * i < k) (hx : x = N / 2 ^ (32 * i) % 4294967296) : v + B ^ i * (x &&& on (min 32 (k - 32 * i))) = N % 2 ^ min (32 * (i + 1)) k := by
  rw [and_on, hx, mod_mod_min _ _ (by omega), min_step, hv, Nat.min_eq_left (Nat.le_of_lt hi), mod_step, B_pow]
/-- The limbs of a mask. -/
def mskl (k : Nat) : Nat → List Nat
  | 0 => []
  | i + 1 => mskl k i ++ [on (min 32 (k - 32 * i))]
theorem mskl_succ (k i : Nat) : mskl k (i + 1) = mskl k i ++ [on (min 32 (k - 32 * i))] := rfl
theorem mskl_len (k i : Nat) : (mskl k i).length = i := by
  induction i with
  | zero => rfl
  | succ i ih => rw [mskl_succ, List.length_append, ih]; rfl
theorem on32 (m : Nat) : on (min 32 m) < 4294967296 := by
  have := on_lt (k := min 32 m) (m := 32) (by omega)
  rwa [show (2 : Nat) ^ 32 = 4294967296 from by decide] at this
theorem mskl_lo (k i : Nat) : Lo (mskl k i) := by
  induction i with
  | zero => exact .nil
  | succ i ih => rw [mskl_succ]; exact ih.append (.cons (on32 _) .nil)
theorem mskl_at (k n i : Nat) (h : i < n) : (mskl k n)[i]'(by rw [mskl_len]; exact h) = on (min 32 (k - 32 * i)) := by
  induction n with
  | zero => omega
  | succ n ih =>
    simp only [mskl_succ]
    by_cases e : i < n
    · rw [List.getElem_append_left (by rw [mskl_len]; exact e)]
      exact ih e
    · obtain rfl : i = n := by omega
      rw [List.getElem_append_right (by rw [mskl_len]; exact Nat.le_refl _)]
      simp [mskl_len]
theorem att_all {W : List Nat} {c k p : Nat} (hk : k ≤ 64 * c) (h : p + c ≤ W.length) : att W c k p = wv (W.drop p) % 2 ^ k := by
  unfold att
  have e := wv_split (W.drop p) c (by simp; omega)
  obtain ⟨j, hj⟩ : ∃ j, 64 * c = k + j := ⟨64 * c - k, by omega⟩
  rw [P64_pow, hj, Nat.pow_add, Nat.mul_assoc] at e
  rw [e, Nat.add_mul_mod_self_left]
/-- How many limbs a mask has. -/
def ml (d : Nat) : Nat := (mb d + 31) / 32
theorem mw_ml (d : Nat) : (ml d + 1) / 2 = mw d := by unfold ml mw; omega
theorem ml_le {d n : Nat} (h : ln d ≤ n) : ml d ≤ n := by
  have a : mb d ≤ 32 * n := by
    refine mb_le ?_
    have := lt_ln d
    have m := Nat.pow_le_pow_right B_pos h
    rw [← B_pow]
    omega
  unfold ml; omega
end Go.Proofs.Ythhphbaimpcjfaa
