/- Plain arithmetic: a product, digit by digit. -/
import Derived.Test.YtgafejolijjiiaaMathR
namespace Go.Proofs.Ytgafejolijjiiaa
set_option linter.unusedVariables false
theorem pow8 : (65536 : Nat) ^ 8 = 340282366920938463463374607431768211456 := by decide
theorem mod8 {b : Nat} (h : Fits b) : b % 65536 ^ 8 = b := by rw [pow8]; unfold Fits at h; exact Nat.mod_eq_of_lt h
/-- The number of the first m digits. -/
def sumTo (d : Nat → Nat) : Nat → Nat
  | 0 => 0
  | m + 1 => sumTo d m + d m * 65536 ^ m
def upd (d : Nat → Nat) (p v : Nat) : Nat → Nat := fun j => if j = p then v else d j
theorem sumTo_far (d : Nat → Nat) (p v : Nat) : ∀ m, m ≤ p → sumTo (upd d p v) m = sumTo d m
  | 0, _ => rfl
  | m + 1, h => by
    have e : upd d p v m = d m := by unfold upd; rw [if_neg (by omega)]
    rw [sumTo, sumTo, sumTo_far d p v m (by omega), e]
theorem sumTo_upd (d : Nat → Nat) (p v : Nat) : ∀ m, p < m → sumTo (upd d p v) m + d p * 65536 ^ p = sumTo d m + v * 65536 ^ p
  | 0, h => by omega
  | m + 1, h => by
    rw [sumTo, sumTo]
    by_cases e : p = m
    · subst e
      have e : upd d p v p = v := by unfold upd; rw [if_pos rfl]
      rw [sumTo_far d p v p (Nat.le_refl _), e]
      omega
    · have e : upd d p v m = d m := by unfold upd; rw [if_neg (by omega)]
      have := sumTo_upd d p v m (by omega)
      rw [e]
      omega
theorem sumTo_zero : ∀ m, sumTo (fun _ => 0) m = 0
  | 0 => rfl
  | m + 1 => by rw [sumTo, sumTo_zero m]; simp
theorem sumTo_ge (d : Nat → Nat) (p : Nat) : ∀ m, p < m → d p * 65536 ^ p ≤ sumTo d m
  | 0, h => by omega
  | m + 1, h => by
    rw [sumTo]
    by_cases e : p = m
    · subst e; omega
    · have := sumTo_ge d p m (by omega); omega
/-- What holds at the head of a round of the inner loop. -/
structure Part16 (a b i k o : Nat) (d : Nat → Nat) : Prop where
  lt : ∀ j, j < 16 → d j < 65536
  top : ∀ j, i + 8 ≤ j → d j = 0
  ob : o < 65536
  val : sumTo d 16 + o * 65536 ^ (i + k) = a % 65536 ^ i * b + dgN a i * (b % 65536 ^ k) * 65536 ^ i
theorem Part16.step {a b i k o : Nat} {d : Nat → Nat} (h : Part16 a b i k o d) (hi : i < 8) (hk : k < 8) : Part16 a b i (k + 1) ((d (i + k) + dgN a i * dgN b k + o) / 65536) (upd d (i + k) ((d (i + k) + dgN a i * dgN b k + o) % 65536)) := by
  have l1 := dgN_lt a i
  have l2 := dgN_lt b k
  have l3 := h.lt (i + k) (by omega)
  have l4 := h.ob
  have l5 : dgN a i * dgN b k ≤ 65535 * 65535 := Nat.mul_le_mul (by omega) (by omega)
  refine ⟨fun j hj => ?_, fun j hj => ?_, by omega, ?_⟩
  · unfold upd
    by_cases e : j = i + k
    · rw [if_pos e]; exact Nat.mod_lt _ (by decide)
    · rw [if_neg e]; exact h.lt j hj
  · unfold upd
    rw [if_neg (by omega)]
    exact h.top j hj
  · have u := sumTo_upd d (i + k) ((d (i + k) + dgN a i * dgN b k + o) % 65536) 16 (by omega)
    have v := h.val
    have m := mod_step b k
    have p1 : (65536 : Nat) ^ (i + (k + 1)) = 65536 * 65536 ^ (i + k) := by rw [show i + (k + 1) = i + k + 1 from rfl, Nat.pow_succ, Nat.mul_comm]
    have p2 : dgN a i * (b % 65536 ^ (k + 1)) * 65536 ^ i = dgN a i * (b % 65536 ^ k) * 65536 ^ i + dgN a i * dgN b k * 65536 ^ (i + k) := by
      rw [m, Nat.mul_add, Nat.add_mul, Nat.pow_add, Nat.mul_comm (65536 ^ i), ← Nat.mul_assoc, ← Nat.mul_assoc]
    rw [p1, p2]
    generalize hN : d (i + k) + dgN a i * dgN b k + o = X at *
    have e : X / 65536 * 65536 + X % 65536 = X := by omega
    have e2 : X / 65536 * (65536 * 65536 ^ (i + k)) + X % 65536 * 65536 ^ (i + k) = X * 65536 ^ (i + k) := by
      rw [← Nat.mul_assoc, ← Nat.add_mul, e]
    have e3 : X * 65536 ^ (i + k) = d (i + k) * 65536 ^ (i + k) + dgN a i * dgN b k * 65536 ^ (i + k) + o * 65536 ^ (i + k) := by
      rw [← hN, Nat.add_mul, Nat.add_mul]
    omega
theorem Part16.row {a b i o : Nat} {d : Nat → Nat} (h : Part16 a b i 8 o d) (hi : i < 8) (hb : Fits b) : Part16 a b (i + 1) 0 0 (upd d (i + 8) o) := by
  have hz := h.top (i + 8) (by omega)
  refine ⟨fun j hj => ?_, fun j hj => ?_, by decide, ?_⟩
  · unfold upd
    by_cases e : j = i + 8
    · rw [if_pos e]; exact h.ob
    · rw [if_neg e]; exact h.lt j hj
  · unfold upd
    rw [if_neg (by omega)]
    exact h.top j (by omega)
  · have u := sumTo_upd d (i + 8) o 16 (by omega)
    have v := h.val
    have m := mod_step a i
    rw [mod8 hb] at v
    rw [hz] at u
    have p : (a % 65536 ^ i + dgN a i * 65536 ^ i) * b = a % 65536 ^ i * b + dgN a i * b * 65536 ^ i := by
      rw [Nat.add_mul, Nat.mul_right_comm]
    rw [m, p, Nat.pow_zero, Nat.mod_one, Nat.mul_zero, Nat.zero_mul, Nat.add_zero, Nat.add_zero]
    rw [Nat.zero_mul, Nat.add_zero] at u
    generalize sumTo d 16 = s1 at *
    generalize sumTo (upd d (i + 8) o) 16 = s2 at *
    omega
theorem Part16.start (a b : Nat) : Part16 a b 0 0 0 (fun _ => 0) := by
  refine ⟨fun _ _ => by decide, fun _ _ => rfl, by decide, ?_⟩
  rw [sumTo_zero, Nat.pow_zero, Nat.mod_one, Nat.mod_one, Nat.zero_mul, Nat.zero_mul, Nat.mul_zero, Nat.zero_mul]
theorem Part16.whole {a b : Nat} {d : Nat → Nat} (h : Part16 a b 8 0 0 d) (ha : Fits a) : sumTo d 16 = a * b := by
  have v := h.val
  rw [mod8 ha, Nat.pow_zero, Nat.mod_one, Nat.mul_zero, Nat.zero_mul, Nat.add_zero, Nat.add_zero] at v
  exact v
theorem Part16.great {a b : Nat} {d : Nat → Nat} (h : Part16 a b 8 0 0 d) (ha : Fits a) (j : Nat) (hj : j < 8) (hd : 0 < d (8 + j)) : ¬ Fits (a * b) := by
  have e := h.whole ha
  have g := sumTo_ge d (8 + j) 16 (by omega)
  have p : 65536 ^ 8 ≤ 65536 ^ (8 + j) := Nat.pow_le_pow_right (by decide) (by omega)
  have q : 1 * 65536 ^ (8 + j) ≤ d (8 + j) * 65536 ^ (8 + j) := Nat.mul_le_mul_right _ hd
  rw [pow8] at p
  rw [e] at g
  clear h e
  intro f
  unfold Fits at f
  generalize 65536 ^ (8 + j) = z at *
  generalize d (8 + j) * z = y at *
  omega
theorem sumTo_cut (d : Nat → Nat) (hz : ∀ j, j < 8 → d (8 + j) = 0) : ∀ m, m ≤ 8 → sumTo d (8 + m) = sumTo d 8
  | 0, _ => rfl
  | m + 1, h => by
    show sumTo d (8 + m) + d (8 + m) * 65536 ^ (8 + m) = _
    rw [hz m (by omega), sumTo_cut d hz m (by omega), Nat.zero_mul, Nat.add_zero]
theorem sumTo_eight (d : Nat → Nat) : sumTo d 8 = num (fun j => (d j : Int)) := by
  have e : sumTo d 8 = 0 + d 0 * 65536 ^ 0 + d 1 * 65536 ^ 1 + d 2 * 65536 ^ 2 + d 3 * 65536 ^ 3 + d 4 * 65536 ^ 4 + d 5 * 65536 ^ 5 + d 6 * 65536 ^ 6 + d 7 * 65536 ^ 7 := rfl
  rw [e]
  unfold num
  simp only [Int.toNat_natCast, Nat.reducePow]
  omega
theorem Part16.small {a b : Nat} {d : Nat → Nat} (h : Part16 a b 8 0 0 d) (ha : Fits a) (hz : ∀ j, j < 8 → d (8 + j) = 0) : num (fun j => (d j : Int)) = a * b ∧ Fits (a * b) := by
  have e := h.whole ha
  have c := sumTo_cut d hz 8 (Nat.le_refl _)
  have f : num (fun j => (d j : Int)) = a * b := by
    rw [← e, ← sumTo_eight]
    exact c.symm
  refine ⟨f, ?_⟩
  rw [← f]
  exact (num_words (fun j => (d j : Int)) (fun j hj => ⟨by omega, by have := h.lt j (by omega); omega⟩)).1
end Go.Proofs.Ytgafejolijjiiaa
