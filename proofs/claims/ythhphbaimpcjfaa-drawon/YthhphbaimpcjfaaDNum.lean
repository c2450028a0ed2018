/- Plain numbers: words of 64 bits, one after another; the first attempt that is below a bound. -/
import Derived.Test.YthhphbaimpcjfaaNumL
namespace Go.Proofs.Ythhphbaimpcjfaa

/-- One more than the greatest word. -/
@[irreducible] def P64 : Nat := 18446744073709551616
theorem P64_eq : P64 = 18446744073709551616 := by unfold P64; rfl
theorem P64_two : P64 = 2 ^ 64 := by rw [P64_eq]
theorem P64_pos : 0 < P64 := by rw [P64_eq]; decide
theorem P64_B : P64 = B * B := by rw [P64_eq, B_eq]
/-- Words are below it. -/
def Lw (xs : List Nat) : Prop := ∀ x ∈ xs, x < 18446744073709551616
theorem Lw.nil : Lw [] := fun x hx => by cases hx
theorem Lw.cons {x : Nat} {r : List Nat} (h : x < 18446744073709551616) (k : Lw r) : Lw (x :: r) := fun y hy => by
  rcases List.mem_cons.1 hy with rfl | hy
  · exact h
  · exact k y hy
theorem Lw.append {xs ys : List Nat} (h : Lw xs) (k : Lw ys) : Lw (xs ++ ys) := fun y hy => by
  rcases List.mem_append.1 hy with hy | hy
  · exact h y hy
  · exact k y hy
theorem Lw.take {xs : List Nat} (h : Lw xs) (k : Nat) : Lw (xs.take k) := fun y hy => h y (List.mem_of_mem_take hy)
theorem Lw.drop {xs : List Nat} (h : Lw xs) (k : Nat) : Lw (xs.drop k) := fun y hy => h y (List.mem_of_mem_drop hy)
theorem Lw.at_ {xs : List Nat} (h : Lw xs) (k : Nat) (hk : k < xs.length) : xs[k] < 18446744073709551616 := h _ (List.getElem_mem hk)
/-- The number of words, the lowest first. -/
def wv : List Nat → Nat
  | [] => 0
  | x :: r => x + P64 * wv r
theorem wv_nil : wv [] = 0 := rfl
theorem wv_cons (x : Nat) (r : List Nat) : wv (x :: r) = x + P64 * wv r := rfl
theorem wv_append (xs ys : List Nat) : wv (xs ++ ys) = wv xs + P64 ^ xs.length * wv ys := by
  induction xs with
  | nil => simp [wv_nil]
  | cons x r ih => rw [List.cons_append, wv_cons, wv_cons, ih, List.length_cons, Nat.pow_succ, Nat.mul_add, Nat.add_assoc, Nat.mul_comm (P64 ^ r.length) P64, Nat.mul_assoc]
theorem wv_snoc (xs : List Nat) (y : Nat) : wv (xs ++ [y]) = wv xs + P64 ^ xs.length * y := by
  rw [wv_append]; simp [wv_cons, wv_nil]
theorem wv_take_succ (xs : List Nat) (k : Nat) (h : k < xs.length) : wv (xs.take (k + 1)) = wv (xs.take k) + P64 ^ k * xs[k] := by
  rw [List.take_succ_eq_append_getElem h, wv_snoc, List.length_take, Nat.min_eq_left (by omega)]
theorem wv_split (xs : List Nat) (k : Nat) (h : k ≤ xs.length) : wv xs = wv (xs.take k) + P64 ^ k * wv (xs.drop k) := by
  conv => lhs; rw [← List.take_append_drop k xs]
  rw [wv_append, List.length_take, Nat.min_eq_left h]
theorem wv_lt {xs : List Nat} (h : Lw xs) : wv xs < P64 ^ xs.length := by
  induction xs with
  | nil => simp [wv_nil]
  | cons x r ih =>
    have i := ih (fun y hy => h y (by simp [hy]))
    have e : P64 ^ (x :: r).length = P64 * P64 ^ r.length := by rw [List.length_cons, Nat.pow_succ, Nat.mul_comm]
    have hx := h x (by simp)
    rw [← P64_eq] at hx
    rw [wv_cons, e]
    have : P64 * (wv r + 1) ≤ P64 * P64 ^ r.length := Nat.mul_le_mul_left _ i
    rw [Nat.mul_add] at this
    omega

/-- What an attempt at place p gives: so many words, so many bits of them. -/
def att (W : List Nat) (c k p : Nat) : Nat := wv ((W.drop p).take c) % 2 ^ k
/-- The first attempt that is below d, and where it ends. -/
def tries (W : List Nat) (c k d p : Nat) : Option (Nat × Nat) :=
  if _h : p + c ≤ W.length then
    if att W c k p < d then some (att W c k p, p + c)
    else if _hc : 0 < c then tries W c k d (p + c) else none
  else none
termination_by W.length - p
decreasing_by omega
theorem tries_hit {W : List Nat} {c k d p : Nat} (h : p + c ≤ W.length) (l : att W c k p < d) : tries W c k d p = some (att W c k p, p + c) := by rw [tries, dif_pos h, if_pos l]
theorem tries_next {W : List Nat} {c k d p : Nat} (h : p + c ≤ W.length) (l : ¬ att W c k p < d) (hc : 0 < c) : tries W c k d p = tries W c k d (p + c) := by
  rw [tries, dif_pos h, if_neg l, dif_pos hc]
theorem tries_dry {W : List Nat} {c k d p : Nat} (h : ¬ p + c ≤ W.length) : tries W c k d p = none := by rw [tries, dif_neg h]
theorem tries_some {W : List Nat} {c k d p v q : Nat} (h : tries W c k d p = some (v, q)) : p + c ≤ q ∧ q ≤ W.length ∧ v < d ∧ v < 2 ^ k := by
  generalize hm : W.length - p = m
  induction m using Nat.strongRecOn generalizing p with
  | _ m ih =>
    by_cases a : p + c ≤ W.length
    · by_cases l : att W c k p < d
      · rw [tries_hit a l] at h
        simp only [Option.some.injEq, Prod.mk.injEq] at h
        obtain ⟨rfl, rfl⟩ := h
        exact ⟨Nat.le_refl _, a, l, Nat.mod_lt _ (Nat.two_pow_pos _)⟩
      · by_cases hc : 0 < c
        · rw [tries_next a l hc] at h
          have := ih (W.length - (p + c)) (by omega) h rfl
          exact ⟨by omega, this.2.1, this.2.2.1, this.2.2.2⟩
        · rw [tries, dif_pos a, if_neg l, dif_neg hc] at h
          cases h
    · rw [tries_dry a] at h
      cases h

/-- The bits of the mask of a bound. -/
def mb (d : Nat) : Nat := bl (d - 1)
/-- The words of an attempt. -/
def mw (d : Nat) : Nat := (mb d + 63) / 64
/-- A draw below d at place p of the words: the number, the new place, the error. -/
def ans (W : List Nat) (p : Int) (d : Nat) : Nat × Int × Int :=
  if d = 0 then (0, p, 7)
  else if p < 0 ∨ (W.length : Int) < p then (0, p, 1)
  else match tries W (mw d) (mb d) d p.toNat with
    | some (v, q) => (v, (q : Int), 0)
    | none => (0, p, 8)
theorem ans_zero (W : List Nat) (p : Int) : ans W p 0 = (0, p, 7) := by unfold ans; rw [if_pos rfl]
theorem ans_arg {W : List Nat} {p : Int} {d : Nat} (h : d ≠ 0) (k : p < 0 ∨ (W.length : Int) < p) : ans W p d = (0, p, 1) := by unfold ans; rw [if_neg h, if_pos k]
theorem ans_hit {W : List Nat} {p d v q : Nat} (h : d ≠ 0) (k : p ≤ W.length) (e : tries W (mw d) (mb d) d p = some (v, q)) : ans W (p : Int) d = (v, (q : Int), 0) := by
  unfold ans; rw [if_neg h, if_neg (by omega), Int.toNat_natCast, e]
theorem ans_dry {W : List Nat} {p d : Nat} (h : d ≠ 0) (k : p ≤ W.length) (e : tries W (mw d) (mb d) d p = none) : ans W (p : Int) d = (0, (p : Int), 8) := by
  unfold ans; rw [if_neg h, if_neg (by omega), Int.toNat_natCast, e]
theorem mb_one : mb 1 = 0 := by unfold mb; exact bl_zero
theorem mw_one : mw 1 = 0 := by unfold mw; rw [mb_one]
theorem tries_one {W : List Nat} {p : Nat} (h : p ≤ W.length) : tries W (mw 1) (mb 1) 1 p = some (0, p) := by
  rw [mw_one, mb_one]
  have e : att W 0 0 p = 0 := by unfold att; rw [Nat.pow_zero, Nat.mod_one]
  rw [tries_hit (by omega) (by rw [e]; decide), e]
  rfl
/-- So many ones. -/
@[irreducible] def on (k : Nat) : Nat := 2 ^ k - 1
theorem on_eq (k : Nat) : on k = 2 ^ k - 1 := by unfold on; rfl
theorem on_lt {k m : Nat} (h : k ≤ m) : on k < 2 ^ m := by
  have := Nat.two_pow_pos k
  have := Nat.pow_le_pow_right (n := 2) (by decide) h
  rw [on_eq]; omega
theorem and_on (x k : Nat) : x &&& on k = x % 2 ^ k := by rw [on_eq]; exact Nat.and_two_pow_sub_one_eq_mod x k
theorem mb_pos {d : Nat} (h : 1 < d) : 0 < mb d := by
  unfold mb
  rw [bl_pos (by omega)]; omega
theorem mb_le {d n : Nat} (h : d ≤ 2 ^ n) : mb d ≤ n := by
  unfold mb
  refine bl_le ?_
  have := Nat.two_pow_pos n
  omega
theorem mw_small {d : Nat} (h : 1 < d) (k : d ≤ 18446744073709551616) : mw d = 1 := by
  have a := mb_pos h
  have b := mb_le (n := 64) (d := d) (by rw [← P64_two, P64_eq]; exact k)
  unfold mw; omega
theorem att_one {W : List Nat} {k p : Nat} (h : p < W.length) : att W 1 k p = W[p] % 2 ^ k := by
  unfold att
  rw [List.drop_eq_getElem_cons h, List.take_succ_cons, List.take_zero, wv_cons, wv_nil, Nat.mul_zero, Nat.add_zero]
end Go.Proofs.Ythhphbaimpcjfaa
