/- Plain arithmetic: halves of limbs, of 16 bits each. -/
import Derived.Test.YthhphbaimpcjfaaNumB
namespace Go.Proofs.Ythhphbaimpcjfaa
/-- One more than the greatest half. -/
@[irreducible] def H16 : Nat := 65536
theorem H16_eq : H16 = 65536 := by unfold H16; rfl
theorem H16_pos : 0 < H16 := by rw [H16_eq]; decide
theorem H16_sq : H16 ^ 2 = B := by rw [H16_eq, B_eq]
theorem H16_pow (k : Nat) : H16 ^ (2 * k) = B ^ k := by rw [Nat.pow_mul, H16_sq]
/-- The number of halves, the lowest first. -/
def hval : List Nat → Nat
  | [] => 0
  | x :: r => x + H16 * hval r
theorem hval_nil : hval [] = 0 := rfl
theorem hval_cons (x : Nat) (r : List Nat) : hval (x :: r) = x + H16 * hval r := rfl
/-- Halves are below H16. -/
def Ld (xs : List Nat) : Prop := ∀ x ∈ xs, x < 65536
theorem Ld.nil : Ld [] := fun x hx => by cases hx
theorem Ld.cons {x : Nat} {r : List Nat} (h : x < 65536) (k : Ld r) : Ld (x :: r) := fun y hy => by
  rcases List.mem_cons.1 hy with rfl | hy
  · exact h
  · exact k y hy
theorem Ld.append {xs ys : List Nat} (h : Ld xs) (k : Ld ys) : Ld (xs ++ ys) := fun y hy => by
  rcases List.mem_append.1 hy with hy | hy
  · exact h y hy
  · exact k y hy
theorem Ld.at_ {xs : List Nat} (h : Ld xs) (k : Nat) (hk : k < xs.length) : xs[k] < 65536 := h _ (List.getElem_mem hk)
theorem Ld.head {x : Nat} {r : List Nat} (h : Ld (x :: r)) : x < 65536 := h x (by simp)
theorem Ld.tail {x : Nat} {r : List Nat} (h : Ld (x :: r)) : Ld r := fun y hy => h y (by simp [hy])
theorem Ld.drop {xs : List Nat} (h : Ld xs) (k : Nat) : Ld (xs.drop k) := fun y hy => h y (List.mem_of_mem_drop hy)
theorem ld_zeros (n : Nat) : Ld (List.replicate n 0) := fun y hy => by rw [(List.mem_replicate.1 hy).2]; decide
theorem ld_set {xs : List Nat} (h : Ld xs) (i v : Nat) (hv : v < 65536) : Ld (xs.set i v) := fun y hy => by
  rcases List.mem_or_eq_of_mem_set hy with k | k
  · exact h y k
  · rw [k]; exact hv
theorem hval_append (xs ys : List Nat) : hval (xs ++ ys) = hval xs + H16 ^ xs.length * hval ys := by
  induction xs with
  | nil => simp [hval_nil]
  | cons x r ih => rw [List.cons_append, hval_cons, hval_cons, ih, List.length_cons, Nat.pow_succ, Nat.mul_add, Nat.add_assoc, Nat.mul_comm (H16 ^ r.length) H16, Nat.mul_assoc]
theorem hval_snoc (xs : List Nat) (y : Nat) : hval (xs ++ [y]) = hval xs + H16 ^ xs.length * y := by
  rw [hval_append]; simp [hval_cons, hval_nil]
theorem hval_take_succ (xs : List Nat) (k : Nat) (h : k < xs.length) : hval (xs.take (k + 1)) = hval (xs.take k) + H16 ^ k * xs[k] := by
  rw [List.take_succ_eq_append_getElem h, hval_snoc, List.length_take, Nat.min_eq_left (by omega)]
theorem hval_zeros (n : Nat) : hval (List.replicate n 0) = 0 := by
  induction n with
  | zero => rfl
  | succ n ih => rw [List.replicate_succ, hval_cons, ih, Nat.mul_zero]
theorem hval_lt {xs : List Nat} (h : Ld xs) : hval xs < H16 ^ xs.length := by
  induction xs with
  | nil => simp [hval_nil]
  | cons x r ih =>
    have i := ih h.tail
    have e : H16 ^ (x :: r).length = H16 * H16 ^ r.length := by rw [List.length_cons, Nat.pow_succ, Nat.mul_comm]
    have hx := h.head
    rw [← H16_eq] at hx
    rw [hval_cons, e]
    have : H16 * (hval r + 1) ≤ H16 * H16 ^ r.length := Nat.mul_le_mul_left _ i
    rw [Nat.mul_add] at this
    omega
theorem hval_set (ps : List Nat) (k v : Nat) (h : k < ps.length) : hval (ps.set k v) + H16 ^ k * ps[k] = hval ps + H16 ^ k * v := by
  induction ps generalizing k with
  | nil => simp at h
  | cons x r ih =>
    cases k with
    | zero => simp [hval_cons]; omega
    | succ k =>
      have := ih k (by simpa using h)
      simp only [List.set_cons_succ, hval_cons, List.getElem_cons_succ, Nat.pow_succ]
      have e : H16 * (hval (r.set k v) + H16 ^ k * r[k]'(by simpa using h)) = H16 * (hval r + H16 ^ k * v) := by rw [this]
      rw [Nat.mul_add, Nat.mul_add, ← Nat.mul_assoc, ← Nat.mul_assoc, Nat.mul_comm H16 (H16 ^ k)] at e
      omega

/-- The limb that is there, or nought. -/
def lat (xs : List Nat) (k : Nat) : Nat := xs[k]?.getD 0
theorem lat_in {xs : List Nat} {k : Nat} (h : k < xs.length) : lat xs k = xs[k] := by unfold lat; rw [List.getElem?_eq_getElem h]; rfl
theorem lat_out {xs : List Nat} {k : Nat} (h : ¬ k < xs.length) : lat xs k = 0 := by unfold lat; rw [List.getElem?_eq_none (by omega)]; rfl
theorem lat_lt {xs : List Nat} (h : Lo xs) (k : Nat) : lat xs k < 4294967296 := by
  by_cases hk : k < xs.length
  · rw [lat_in hk]; exact h.at_ k hk
  · rw [lat_out hk]; decide
theorem val_take_lat (xs : List Nat) (k : Nat) : val (xs.take (k + 1)) = val (xs.take k) + B ^ k * lat xs k := by
  by_cases hk : k < xs.length
  · rw [lat_in hk]; exact val_take_succ xs k hk
  · rw [lat_out hk, List.take_of_length_le (by omega), List.take_of_length_le (by omega), Nat.mul_zero, Nat.add_zero]
/-- Half i. -/
def hf (xs : List Nat) (i : Nat) : Nat := if i % 2 = 0 then lat xs (i / 2) % 65536 else lat xs (i / 2) / 65536
theorem hf_even (xs : List Nat) (i : Nat) (h : i % 2 = 0) : hf xs i = lat xs (i / 2) % 65536 := by unfold hf; rw [if_pos h]
theorem hf_odd (xs : List Nat) (i : Nat) (h : ¬ i % 2 = 0) : hf xs i = lat xs (i / 2) / 65536 := by unfold hf; rw [if_neg h]
theorem hf_lt {xs : List Nat} (h : Lo xs) (i : Nat) : hf xs i < 65536 := by
  have := lat_lt h (i / 2)
  unfold hf
  split <;> omega
/-- So many halves. -/
def halves (xs : List Nat) : Nat → List Nat
  | 0 => []
  | n + 1 => halves xs n ++ [hf xs n]
theorem halves_succ (xs : List Nat) (n : Nat) : halves xs (n + 1) = halves xs n ++ [hf xs n] := rfl
theorem halves_len (xs : List Nat) (n : Nat) : (halves xs n).length = n := by
  induction n with
  | zero => rfl
  | succ n ih => rw [halves_succ, List.length_append, ih]; rfl
theorem ld_halves {xs : List Nat} (h : Lo xs) (n : Nat) : Ld (halves xs n) := by
  induction n with
  | zero => exact .nil
  | succ n ih => exact ih.append (.cons (hf_lt h n) .nil)
theorem two_halves (P x : Nat) : P * (x % 65536) + P * 65536 * (x / 65536) = P * x := by
  have e : x = x % 65536 + 65536 * (x / 65536) := by omega
  conv => rhs; rw [e, Nat.mul_add, ← Nat.mul_assoc]
theorem halves_val (xs : List Nat) (k : Nat) : hval (halves xs (2 * k)) = val (xs.take k) := by
  induction k with
  | zero => rfl
  | succ k ih =>
    have e : 2 * (k + 1) = 2 * k + 1 + 1 := by omega
    rw [e, halves_succ, halves_succ, hval_snoc, hval_snoc, ih, List.length_append, halves_len, List.length_singleton, hf_even _ _ (by omega), hf_odd _ _ (by omega), show 2 * k / 2 = k by omega, show (2 * k + 1) / 2 = k by omega, val_take_lat, Nat.pow_succ, H16_pow, H16_eq, Nat.add_assoc, two_halves]
theorem halves_whole {xs : List Nat} {k : Nat} (h : xs.length ≤ k) : hval (halves xs (2 * k)) = val xs := by rw [halves_val, List.take_of_length_le h]
/-- Two halves are a limb. -/
theorem hval_two (hs : List Nat) (k : Nat) (h : 2 * k + 1 < hs.length) : hval (hs.take (2 * (k + 1))) = hval (hs.take (2 * k)) + B ^ k * (hs[2 * k] + 65536 * hs[2 * k + 1]) := by
  have e : 2 * (k + 1) = 2 * k + 1 + 1 := by omega
  rw [e, hval_take_succ hs (2 * k + 1) h, hval_take_succ hs (2 * k) (by omega), Nat.pow_succ, H16_pow, H16_eq, Nat.mul_add, Nat.mul_assoc, Nat.add_assoc]
/-- A step of a sum. -/
theorem had_step {P s x y k v c : Nat} (h : v + P * k = s) (e : x + y + k = c) : v + P * (c % 65536) + P * 65536 * (c / 65536) = s + P * x + P * y := by
  have := two_halves P c
  rw [Nat.add_assoc, this, ← e, ← h, Nat.mul_add, Nat.mul_add]
  omega
theorem hsb_limb (x y k : Nat) (hx : x < 65536) (hy : y < 65536) (hk : k ≤ 1) : x + 65536 * (1 - (65536 + x - y - k) / 65536) = (65536 + x - y - k) % 65536 + y + k := by
  omega
theorem hsb_step {P s t v x y k b d : Nat} (h : s + P * k = v + t) (e : x + 65536 * b = d + y + k) : s + P * x + P * 65536 * b = v + P * d + (t + P * y) := by
  have : P * x + P * 65536 * b = P * d + P * y + P * k := by
    rw [Nat.mul_assoc, ← Nat.mul_add, e, Nat.mul_add, Nat.mul_add]
  omega
theorem hpr_step {P V S p x y k T v : Nat} (h : V + P * k = S) (e : v + P * p = V + P * (T % 65536)) (ht : T = p + x * y + k) : v + P * 65536 * (T / 65536) = S + P * (x * y) := by
  have e3 := two_halves P T
  have e4 : P * T = P * p + P * (x * y) + P * k := by rw [ht, Nat.mul_add, Nat.mul_add]
  omega
end Go.Proofs.Ythhphbaimpcjfaa
