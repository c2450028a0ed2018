/- Plain arithmetic of limbs of 32 bits: no program in sight. -/
namespace Go.Proofs.Ythhphbaimpcjfaa

/-- One more than the greatest limb. -/
@[irreducible] def B : Nat := 4294967296
theorem B_eq : B = 4294967296 := by unfold B; rfl
theorem B_pos : 0 < B := by rw [B_eq]; decide

/-- The number of limbs, the lowest first. -/
def val : List Nat → Nat
  | [] => 0
  | x :: r => x + B * val r
theorem val_nil : val [] = 0 := rfl
theorem val_cons (x : Nat) (r : List Nat) : val (x :: r) = x + B * val r := rfl

/-- Limbs are below B. -/
def Lo (xs : List Nat) : Prop := ∀ x ∈ xs, x < 4294967296
theorem Lo.nil : Lo [] := fun x hx => by cases hx
theorem Lo.cons {x : Nat} {r : List Nat} (h : x < 4294967296) (k : Lo r) : Lo (x :: r) := fun y hy => by
  rcases List.mem_cons.1 hy with rfl | hy
  · exact h
  · exact k y hy
theorem Lo.head {x : Nat} {r : List Nat} (h : Lo (x :: r)) : x < 4294967296 := h x (by simp)
theorem Lo.tail {x : Nat} {r : List Nat} (h : Lo (x :: r)) : Lo r := fun y hy => h y (by simp [hy])
theorem Lo.append {xs ys : List Nat} (h : Lo xs) (k : Lo ys) : Lo (xs ++ ys) := fun y hy => by
  rcases List.mem_append.1 hy with hy | hy
  · exact h y hy
  · exact k y hy
theorem Lo.take {xs : List Nat} (h : Lo xs) (k : Nat) : Lo (xs.take k) := fun y hy => h y (List.mem_of_mem_take hy)
theorem Lo.drop {xs : List Nat} (h : Lo xs) (k : Nat) : Lo (xs.drop k) := fun y hy => h y (List.mem_of_mem_drop hy)
theorem Lo.at_ {xs : List Nat} (h : Lo xs) (k : Nat) (hk : k < xs.length) : xs[k] < 4294967296 := h _ (List.getElem_mem hk)

theorem val_append (xs ys : List Nat) : val (xs ++ ys) = val xs + B ^ xs.length * val ys := by
  induction xs with
  | nil => simp [val_nil]
  | cons x r ih => rw [List.cons_append, val_cons, val_cons, ih, List.length_cons, Nat.pow_succ, Nat.mul_add, Nat.add_assoc, Nat.mul_comm (B ^ r.length) B, Nat.mul_assoc]
theorem val_snoc (xs : List Nat) (y : Nat) : val (xs ++ [y]) = val xs + B ^ xs.length * y := by
  rw [val_append]; simp [val_cons, val_nil]
theorem take_snoc (xs : List Nat) (k : Nat) (h : k < xs.length) : xs.take (k + 1) = xs.take k ++ [xs[k]] := List.take_succ_eq_append_getElem h
theorem val_take_succ (xs : List Nat) (k : Nat) (h : k < xs.length) : val (xs.take (k + 1)) = val (xs.take k) + B ^ k * xs[k] := by
  rw [take_snoc xs k h, val_snoc, List.length_take, Nat.min_eq_left (by omega)]
theorem val_split (xs : List Nat) (k : Nat) (h : k ≤ xs.length) : val xs = val (xs.take k) + B ^ k * val (xs.drop k) := by
  conv => lhs; rw [← List.take_append_drop k xs]
  rw [val_append, List.length_take, Nat.min_eq_left h]
theorem val_drop (xs : List Nat) (k : Nat) (h : k < xs.length) : val (xs.drop k) = xs[k] + B * val (xs.drop (k + 1)) := by
  rw [List.drop_eq_getElem_cons h, val_cons]
theorem val_lt {xs : List Nat} (h : Lo xs) : val xs < B ^ xs.length := by
  induction xs with
  | nil => simp [val_nil]
  | cons x r ih =>
    have i := ih h.tail
    have e : B ^ (x :: r).length = B * B ^ r.length := by rw [List.length_cons, Nat.pow_succ, Nat.mul_comm]
    have hx := h.head
    rw [← B_eq] at hx
    rw [val_cons, e]
    have : B * (val r + 1) ≤ B * B ^ r.length := Nat.mul_le_mul_left _ i
    rw [Nat.mul_add] at this
    omega
theorem val_zeros (n : Nat) : val (List.replicate n 0) = 0 := by
  induction n with
  | zero => rfl
  | succ n ih => rw [List.replicate_succ, val_cons, ih, Nat.mul_zero]
theorem val_append_zeros (xs : List Nat) (n : Nat) : val (xs ++ List.replicate n 0) = val xs := by rw [val_append, val_zeros, Nat.mul_zero, Nat.add_zero]

/-- The limbs of a number. -/
def limbs (n : Nat) : List Nat := if h : n = 0 then [] else n % 4294967296 :: limbs (n / 4294967296)
termination_by n
decreasing_by exact Nat.div_lt_self (Nat.pos_of_ne_zero h) (by decide)
theorem limbs_zero : limbs 0 = [] := by rw [limbs]; rfl
theorem limbs_pos {n : Nat} (h : n ≠ 0) : limbs n = n % 4294967296 :: limbs (n / 4294967296) := by rw [limbs, dif_neg h]
theorem lo_limbs (n : Nat) : Lo (limbs n) := by
  induction n using Nat.strongRecOn with
  | _ n ih =>
    by_cases h : n = 0
    · rw [h, limbs_zero]; exact .nil
    · rw [limbs_pos h]
      exact .cons (Nat.mod_lt _ (by decide)) (ih _ (Nat.div_lt_self (Nat.pos_of_ne_zero h) (by decide)))
theorem val_limbs (n : Nat) : val (limbs n) = n := by
  induction n using Nat.strongRecOn with
  | _ n ih =>
    by_cases h : n = 0
    · rw [h, limbs_zero]; rfl
    · rw [limbs_pos h, val_cons, ih _ (Nat.div_lt_self (Nat.pos_of_ne_zero h) (by decide)), B_eq]
      omega
theorem limbs_inj {a b : Nat} (h : limbs a = limbs b) : a = b := by rw [← val_limbs a, ← val_limbs b, h]
theorem limbs_add_mul {x n : Nat} (hx : x < 4294967296) (h : n ≠ 0) : limbs (x + 4294967296 * n) = x :: limbs n := by
  rw [limbs_pos (by omega)]
  have e1 : (x + 4294967296 * n) % 4294967296 = x := by omega
  have e2 : (x + 4294967296 * n) / 4294967296 = n := by omega
  rw [e1, e2]
theorem limbs_one {x : Nat} (hx : x < 4294967296) (h : x ≠ 0) : limbs x = [x] := by
  rw [limbs_pos h]
  have e1 : x % 4294967296 = x := by omega
  have e2 : x / 4294967296 = 0 := by omega
  rw [e1, e2, limbs_zero]
/-- Limbs of which the last one is not 0 are those of their number. -/
theorem limbs_val {xs : List Nat} (h : Lo xs) (k : ∀ hn : xs ≠ [], xs.getLast hn ≠ 0) : limbs (val xs) = xs := by
  induction xs with
  | nil => rw [val_nil, limbs_zero]
  | cons x r ih =>
    rw [val_cons, B_eq]
    by_cases hr : r = []
    · subst hr
      have := k (by simp)
      simp at this
      rw [val_nil, Nat.mul_zero, Nat.add_zero]
      exact limbs_one h.head this
    · have k' : ∀ hn : r ≠ [], r.getLast hn ≠ 0 := fun hn => by
        have := k (by simp)
        rwa [List.getLast_cons hn] at this
      have i := ih h.tail k'
      have nz : val r ≠ 0 := by
        intro e
        rw [e, limbs_zero] at i
        exact hr i.symm
      rw [limbs_add_mul h.head nz, i]
theorem limbs_last (n : Nat) (hn : limbs n ≠ []) : (limbs n).getLast hn ≠ 0 := by
  induction n using Nat.strongRecOn with
  | _ n ih =>
    by_cases h : n = 0
    · subst h; exact absurd limbs_zero hn
    · have e := limbs_pos h
      have : (limbs n).getLast hn = (n % 4294967296 :: limbs (n / 4294967296)).getLast (by simp) := by simp only [e]
      rw [this]
      by_cases h2 : n / 4294967296 = 0
      · have e3 : limbs (n / 4294967296) = [] := by rw [h2, limbs_zero]
        simp only [e3, List.getLast_singleton]
        omega
      · have hne : limbs (n / 4294967296) ≠ [] := by rw [limbs_pos h2]; simp
        rw [List.getLast_cons hne]
        exact ih _ (Nat.div_lt_self (Nat.pos_of_ne_zero h) (by decide)) hne
/-- Noughts at the high end count for nothing. -/
theorem limbs_snoc_zero {xs : List Nat} : limbs (val (xs ++ [0])) = limbs (val xs) := by rw [val_snoc, Nat.mul_zero, Nat.add_zero]

/-- How many limbs. -/
def ln (n : Nat) : Nat := (limbs n).length
theorem ln_zero : ln 0 = 0 := by unfold ln; rw [limbs_zero]; rfl
theorem ln_eq_zero {n : Nat} (h : ln n = 0) : n = 0 := by
  unfold ln at h
  have := List.eq_nil_of_length_eq_zero h
  rw [← val_limbs n, this, val_nil]
theorem ln_pos {n : Nat} (h : n ≠ 0) : 0 < ln n := by
  rcases Nat.eq_zero_or_pos (ln n) with k | k
  · exact absurd (ln_eq_zero k) h
  · exact k
theorem ln_succ {n : Nat} (h : n ≠ 0) : ln n = ln (n / 4294967296) + 1 := by unfold ln; rw [limbs_pos h]; rfl
theorem lt_ln (n : Nat) : n < B ^ ln n := by
  have := val_lt (lo_limbs n)
  rwa [val_limbs] at this
theorem ln_le {n k : Nat} (h : n < B ^ k) : ln n ≤ k := by
  induction k generalizing n with
  | zero =>
    have : n = 0 := by simpa using h
    rw [this, ln_zero]; omega
  | succ k ih =>
    by_cases hz : n = 0
    · rw [hz, ln_zero]; omega
    · rw [ln_succ hz]
      have : n / 4294967296 < B ^ k := by
        rw [Nat.pow_succ, B_eq] at h
        rw [B_eq]
        exact Nat.div_lt_of_lt_mul (by rwa [Nat.mul_comm])
      have := ih this
      omega
theorem le_of_ln {n : Nat} (h : n ≠ 0) : B ^ (ln n - 1) ≤ n := by
  apply Decidable.byContradiction
  intro k
  have := ln_le (show n < B ^ (ln n - 1) by omega)
  have := ln_pos h
  omega
theorem ln_mono {a b : Nat} (h : a ≤ b) : ln a ≤ ln b := ln_le (Nat.lt_of_le_of_lt h (lt_ln b))
theorem ln_val {xs : List Nat} (h : Lo xs) : ln (val xs) ≤ xs.length := ln_le (val_lt h)
theorem limbs_length (n : Nat) : (limbs n).length = ln n := rfl
theorem last_ne_zero {a k : Nat} (hk : k + 1 = (limbs a).length) : (limbs a)[k]'(by omega) ≠ 0 := by
  have hn : limbs a ≠ [] := by intro e; rw [e] at hk; simp at hk
  have := limbs_last a hn
  rw [List.getLast_eq_getElem] at this
  have e : (limbs a).length - 1 = k := by omega
  simpa only [e] using this
theorem val_take_limbs_lt (a k : Nat) : val ((limbs a).take k) < B ^ k := by
  have := val_lt ((lo_limbs a).take k)
  refine Nat.lt_of_lt_of_le this (Nat.pow_le_pow_right B_pos (by simp; omega))
end Go.Proofs.Ythhphbaimpcjfaa
