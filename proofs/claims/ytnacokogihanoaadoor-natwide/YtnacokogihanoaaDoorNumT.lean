/- Plain arithmetic: decimal digits and texts. -/
import Derived.Test.YtnacokogihanoaaDoorNumD
namespace Go.Proofs.YtnacokogihanoaaDoor

/-- The number of decimal digits, the lowest first. -/
def dv : List Nat → Nat
  | [] => 0
  | x :: r => x + 10 * dv r
/-- Digits. -/
def Dg (xs : List Nat) : Prop := ∀ x ∈ xs, x < 10
theorem Dg.nil : Dg [] := fun x hx => by cases hx
theorem Dg.cons {x : Nat} {r : List Nat} (h : x < 10) (k : Dg r) : Dg (x :: r) := fun y hy => by
  rcases List.mem_cons.1 hy with rfl | hy
  · exact h
  · exact k y hy
theorem Dg.head {x : Nat} {r : List Nat} (h : Dg (x :: r)) : x < 10 := h x (by simp)
theorem Dg.tail {x : Nat} {r : List Nat} (h : Dg (x :: r)) : Dg r := fun y hy => h y (by simp [hy])
theorem Dg.append {xs ys : List Nat} (h : Dg xs) (k : Dg ys) : Dg (xs ++ ys) := fun y hy => by
  rcases List.mem_append.1 hy with hy | hy
  · exact h y hy
  · exact k y hy
theorem Dg.take {xs : List Nat} (h : Dg xs) (k : Nat) : Dg (xs.take k) := fun y hy => h y (List.mem_of_mem_take hy)
theorem dv_append (xs ys : List Nat) : dv (xs ++ ys) = dv xs + 10 ^ xs.length * dv ys := by
  induction xs with
  | nil => simp [dv]
  | cons x r ih => rw [List.cons_append, dv, dv, ih, List.length_cons, Nat.pow_succ, Nat.mul_add, Nat.add_assoc, Nat.mul_comm (10 ^ r.length) 10, Nat.mul_assoc]
theorem dv_snoc_zero (xs : List Nat) : dv (xs ++ [0]) = dv xs := by rw [dv_append]; simp [dv]
/-- The digits of a number, the lowest first. -/
def tens (n : Nat) : List Nat := if h : n = 0 then [] else n % 10 :: tens (n / 10)
termination_by n
decreasing_by exact Nat.div_lt_self (Nat.pos_of_ne_zero h) (by decide)
theorem tens_zero : tens 0 = [] := by rw [tens]; rfl
theorem tens_pos {n : Nat} (h : n ≠ 0) : tens n = n % 10 :: tens (n / 10) := by rw [tens, dif_neg h]
theorem tens_step (n : Nat) : tens n = if n = 0 then [] else n % 10 :: tens (n / 10) := by
  by_cases h : n = 0
  · rw [if_pos h, h, tens_zero]
  · rw [if_neg h, tens_pos h]
theorem dg_tens (n : Nat) : Dg (tens n) := by
  induction n using Nat.strongRecOn with
  | _ n ih =>
    by_cases h : n = 0
    · rw [h, tens_zero]; exact .nil
    · rw [tens_pos h]
      exact .cons (Nat.mod_lt _ (by decide)) (ih _ (Nat.div_lt_self (Nat.pos_of_ne_zero h) (by decide)))
theorem dv_tens (n : Nat) : dv (tens n) = n := by
  induction n using Nat.strongRecOn with
  | _ n ih =>
    by_cases h : n = 0
    · rw [h, tens_zero]; rfl
    · rw [tens_pos h, dv, ih _ (Nat.div_lt_self (Nat.pos_of_ne_zero h) (by decide))]
      omega
theorem tens_dv {xs : List Nat} (h : Dg xs) (k : ∀ hn : xs ≠ [], xs.getLast hn ≠ 0) : tens (dv xs) = xs := by
  induction xs with
  | nil => rw [dv, tens_zero]
  | cons x r ih =>
    by_cases hr : r = []
    · subst hr
      have := k (by simp)
      simp at this
      have hx := h.head
      rw [dv, dv, Nat.mul_zero, Nat.add_zero, tens_pos this, Nat.mod_eq_of_lt hx, Nat.div_eq_of_lt hx, tens_zero]
    · have k' : ∀ hn : r ≠ [], r.getLast hn ≠ 0 := fun hn => by
        have := k (by simp)
        rwa [List.getLast_cons hn] at this
      have i := ih h.tail k'
      have nz : dv r ≠ 0 := by
        intro e
        rw [e, tens_zero] at i
        exact hr i.symm
      have hx := h.head
      rw [dv, tens_pos (by omega), show (x + 10 * dv r) % 10 = x by omega, show (x + 10 * dv r) / 10 = dv r by omega, i]
theorem tens_last (n : Nat) (hn : tens n ≠ []) : (tens n).getLast hn ≠ 0 := by
  induction n using Nat.strongRecOn with
  | _ n ih =>
    by_cases h : n = 0
    · subst h; exact absurd tens_zero hn
    · have e := tens_pos h
      have : (tens n).getLast hn = (n % 10 :: tens (n / 10)).getLast (by simp) := by simp only [e]
      rw [this]
      by_cases h2 : n / 10 = 0
      · have e3 : tens (n / 10) = [] := by rw [h2, tens_zero]
        simp only [e3, List.getLast_singleton]
        omega
      · have hne : tens (n / 10) ≠ [] := by rw [tens_pos h2]; simp
        rw [List.getLast_cons hne]
        exact ih _ (Nat.div_lt_self (Nat.pos_of_ne_zero h) (by decide)) hne
/-- So many digits of a number, noughts among them. -/
def pads : Nat → Nat → List Nat
  | 0, _ => []
  | k + 1, n => n % 10 :: pads k (n / 10)
theorem pads_length (k n : Nat) : (pads k n).length = k := by
  induction k generalizing n with
  | zero => rfl
  | succ k ih => rw [pads, List.length_cons, ih]
theorem dg_pads (k n : Nat) : Dg (pads k n) := by
  induction k generalizing n with
  | zero => exact .nil
  | succ k ih => exact .cons (Nat.mod_lt _ (by decide)) (ih _)
theorem dv_pads (k n : Nat) (h : n < 10 ^ k) : dv (pads k n) = n := by
  induction k generalizing n with
  | zero => have : n = 0 := by simpa using h
            rw [this]; rfl
  | succ k ih =>
    rw [pads, dv, ih (n / 10) ((Nat.div_lt_iff_lt_mul (by decide)).2 (by rw [Nat.pow_succ] at h; exact h))]
    omega
theorem pads_snoc (k n : Nat) : pads (k + 1) n = pads k n ++ [n / 10 ^ k % 10] := by
  induction k generalizing n with
  | zero => simp [pads]
  | succ k ih =>
    rw [pads, ih (n / 10), pads, List.cons_append, Nat.div_div_eq_div_mul, Nat.pow_succ, Nat.mul_comm 10]
/-- A digit as a byte. -/
def dig (d : Nat) : UInt8 := UInt8.ofNat (48 + d)
theorem dig_toNat {d : Nat} (h : d < 10) : (dig d).toNat = 48 + d := by
  unfold dig
  rw [UInt8.toNat_ofNat_of_lt' (by show 48 + d < 256; omega)]
theorem dig_zero : dig 0 = 48 := rfl
theorem dig_ne {d : Nat} (h : d < 10) (hz : d ≠ 0) : dig d ≠ 48 := by
  intro e
  have := dig_toNat h
  rw [e] at this
  have : (48 : UInt8).toNat = 48 := rfl
  omega
/-- The text of a number. -/
@[irreducible] def dtext (n : Nat) : List UInt8 := if n = 0 then [48] else ((tens n).map dig).reverse
theorem dtext_zero : dtext 0 = [48] := by unfold dtext; rw [if_pos rfl]
theorem dtext_pos {n : Nat} (h : n ≠ 0) : dtext n = ((tens n).map dig).reverse := by unfold dtext; rw [if_neg h]

/-- The number of a text. -/
def rd (l : List UInt8) : Nat := l.foldl (fun n c => n * 10 + (c.toNat - 48)) 0
theorem rd_snoc (l : List UInt8) (c : UInt8) : rd (l ++ [c]) = rd l * 10 + (c.toNat - 48) := by unfold rd; rw [List.foldl_append]; rfl
theorem rd_digits (ds : List Nat) (h : Dg ds) : rd ((ds.map dig).reverse) = dv ds := by
  induction ds with
  | nil => rfl
  | cons x r ih =>
    rw [List.map_cons, List.reverse_cons, rd_snoc, ih h.tail, dig_toNat h.head, dv]
    omega
theorem rd_dtext (n : Nat) : rd (dtext n) = n := by
  by_cases h : n = 0
  · rw [h, dtext_zero]; rfl
  · rw [dtext_pos h, rd_digits _ (dg_tens n), dv_tens]
/-- A decimal digit. -/
def isD (c : UInt8) : Prop := 48 ≤ c.toNat ∧ c.toNat ≤ 57
/-- Is it a natural's text? -/
def isT (l : List UInt8) : Prop := l ≠ [] ∧ ¬ (l.head? = some 48 ∧ 1 < l.length) ∧ ∀ c ∈ l, isD c
theorem isD_dig {d : Nat} (h : d < 10) : isD (dig d) := by unfold isD; rw [dig_toNat h]; omega
theorem isT_dtext (n : Nat) : isT (dtext n) := by
  by_cases h : n = 0
  · rw [h, dtext_zero]
    refine ⟨by simp, by simp, ?_⟩
    intro c hc
    have : c = 48 := by simpa using hc
    rw [this]
    exact ⟨by decide, by decide⟩
  · have hne : tens n ≠ [] := by rw [tens_pos h]; simp
    rw [dtext_pos h]
    refine ⟨by simp [hne], ?_, ?_⟩
    · rintro ⟨hh, _⟩
      have l := tens_last n hne
      rw [List.head?_reverse, List.getLast?_map, List.getLast?_eq_some_getLast hne] at hh
      simp only [Option.map_some, Option.some.injEq] at hh
      exact dig_ne (dg_tens n _ (List.getLast_mem hne)) l hh
    · intro c hc
      rw [List.mem_reverse, List.mem_map] at hc
      obtain ⟨d, hd, rfl⟩ := hc
      exact isD_dig (dg_tens n d hd)
theorem rd_append (l m : List UInt8) : rd (l ++ m) = rd l * 10 ^ m.length + rd m := by
  induction m generalizing l with
  | nil => simp [rd]
  | cons c r ih =>
    have e : l ++ c :: r = (l ++ [c]) ++ r := by simp
    have e2 : c :: r = [c] ++ r := rfl
    rw [e, ih, rd_snoc, e2, ih [c], List.length_append, List.length_singleton]
    have : rd [c] = c.toNat - 48 := by simp [rd]
    rw [this, Nat.add_mul, Nat.pow_add, Nat.pow_one, ← Nat.mul_assoc, Nat.add_assoc]
theorem rd_lt (l : List UInt8) (h : ∀ c ∈ l, isD c) : rd l < 10 ^ l.length := by
  induction l with
  | nil => simp [rd]
  | cons c r ih =>
    have e2 : c :: r = [c] ++ r := rfl
    have i := ih (fun x hx => h x (by simp [hx]))
    have hc := (h c (by simp)).2
    have : rd [c] = c.toNat - 48 := by simp [rd]
    rw [e2, rd_append, this, List.length_append, List.length_singleton, Nat.pow_add, Nat.pow_one]
    have : (c.toNat - 48) * 10 ^ r.length ≤ 9 * 10 ^ r.length := Nat.mul_le_mul_right _ (by omega)
    omega
theorem rd_mono (l m : List UInt8) : rd l ≤ rd (l ++ m) := by
  rw [rd_append]
  have : rd l * 1 ≤ rd l * 10 ^ m.length := Nat.mul_le_mul_left _ (Nat.pow_pos (by decide))
  omega
end Go.Proofs.YtnacokogihanoaaDoor
