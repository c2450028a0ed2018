/- Plain arithmetic of long division. -/
import Derived.Test.YtnacokogihanoaaDoorNumC
namespace Go.Proofs.YtnacokogihanoaaDoor

theorem last_zero {ss : List Nat} {m : Nat} (hl : ss.length = m + 1) (h : val ss < B ^ m) : ∃ ws, ss = ws ++ [0] ∧ ws.length = m ∧ val ws = val ss := by
  have hm : m < ss.length := by omega
  have e := val_take_succ ss m hm
  rw [List.take_of_length_le (by omega)] at e
  have z : ss[m] = 0 := by
    apply Decidable.byContradiction
    intro k
    have : B ^ m * 1 ≤ B ^ m * ss[m] := Nat.mul_le_mul_left _ (by omega)
    rw [Nat.mul_one] at this
    omega
  refine ⟨ss.take m, ?_, by simp; omega, ?_⟩
  · have := take_snoc ss m hm
    rw [List.take_of_length_le (by omega), z] at this
    exact this
  · rw [e, z, Nat.mul_zero, Nat.add_zero]
theorem div_scaled {a b Q R p : Nat} (hp : 0 < p) (hb : 0 < b) (h : a * p = Q * (b * p) + R) (hR : R < b * p) : Q = a / b ∧ R / p = a % b := by
  have hbp : 0 < b * p := Nat.mul_pos hb hp
  have e := (Nat.div_mod_unique (a := a * p) (b := b * p) (c := R) (d := Q) hbp).2 ⟨by rw [h, Nat.mul_comm (b * p) Q, Nat.add_comm], hR⟩
  rw [Nat.mul_div_mul_right _ _ hp] at e
  rw [Nat.mul_mod_mul_right] at e
  exact ⟨e.1.symm, by rw [← e.2, Nat.mul_div_cancel _ hp]⟩
theorem dlg_step {N Q R v B' x U : Nat} (h : N = Q * v + R) (hU : U = x + B' * R) : x + B' * N = (U / v + B' * Q) * v + U % v := by
  have e := Nat.div_add_mod U v
  rw [h, Nat.add_mul, Nat.mul_add, ← Nat.mul_assoc, Nat.mul_comm (U / v) v]
  omega
theorem shift_fits {b m k : Nat} (hm : m + 1 = (limbs b).length) (hs : bl ((limbs b)[m]'(by omega)) + k = 32) : b * 2 ^ k < B ^ (m + 1) := by
  have e := bl_limbs (a := b) (k := m) hm
  have l := lt_bl b
  rw [B_pow]
  have : b * 2 ^ k < 2 ^ bl b * 2 ^ k := Nat.mul_lt_mul_of_pos_right l (Nat.two_pow_pos k)
  rw [← Nat.pow_add] at this
  rw [show bl b + k = 32 * (m + 1) by omega] at this
  exact this
theorem shift_ge {b m k : Nat} (hb : b ≠ 0) (hm : m + 1 = ln b) : B ^ m ≤ b * 2 ^ k := by
  have := le_of_ln hb
  rw [← hm, Nat.add_sub_cancel] at this
  exact Nat.le_trans this (Nat.le_mul_of_pos_right _ (Nat.two_pow_pos k))
theorem top_ne {vs : List Nat} {m : Nat} (hl : vs.length = m + 1) (lo : Lo vs) (h : B ^ m ≤ val vs) : vs[m] ≠ 0 := by
  intro z
  have e := val_take_succ vs m (by omega)
  rw [List.take_of_length_le (by omega), z, Nat.mul_zero, Nat.add_zero] at e
  have := val_lt (lo.take m)
  rw [List.length_take, Nat.min_eq_left (by omega)] at this
  omega
/-- The upper limbs of what is divided are below the divisor. -/
theorem start_lt {S : List Nat} {a n d m p v : Nat} (hS : val S = a * p) (ha : a < B ^ n) (hd : d + m = n + 1) (hl : S.length = n + 1) (hm : 0 < m) (hp : 0 < p) (hv : B ^ (m - 1) * p ≤ v) : val (S.drop d) < v := by
  have e := val_split S d (by omega)
  apply Nat.lt_of_lt_of_le _ hv
  apply Decidable.byContradiction
  intro k
  have k1 : B ^ d * (B ^ (m - 1) * p) ≤ B ^ d * val (S.drop d) := Nat.mul_le_mul_left _ (by omega)
  rw [← Nat.mul_assoc, ← Nat.pow_add, show d + (m - 1) = n by omega] at k1
  have k2 : a * p < B ^ n * p := Nat.mul_lt_mul_of_pos_right ha hp
  omega
end Go.Proofs.YtnacokogihanoaaDoor
