/- Plain arithmetic of limbs of 32 bits: no program in sight. Plain arithmetic: the order of numbers by their limbs; naturals. Plain: items, who stands ahead; that goes through; lists in order, those that are equal in the order in which they came: there is one alone. Plain: stretches that change places; two stretches in order that are merged, the equal ones as they came. Plain: heaps of items, the last one in order on top; lifting, sinking: a heap stays one, none is lost. -/
import Derived.Laws.Strings2
namespace Go.Proofs.Ytnkhgkpijfohkaa

/-- One more than the greatest limb. -/
@[irreducible] def B : Nat := 4294967296
theorem B_eq : B = 4294967296 := by unfold B; rfl
theorem B_pos : 0 < B := by rw [B_eq]; decide

/-- The number of limbs, the lowest first. -/
def val : List Nat → Nat
  | [] => 0
  | x :: r => x + B * val r
theorem val_nil : val [] = 0 := rfl
theorem val_cons (x : Nat) (r : List Nat) : val (x :: r) = x + B * val r := rfl

/-- Limbs are below B. -/
def Lo (xs : List Nat) : Prop := ∀ x ∈ xs, x < 4294967296
theorem Lo.nil : Lo [] := fun x hx => by cases hx
theorem Lo.cons {x : Nat} {r : List Nat} (h : x < 4294967296) (k : Lo r) : Lo (x :: r) := fun y hy => by
  rcases List.mem_cons.1 hy with rfl | hy
  · exact h
  · exact k y hy
theorem Lo.head {x : Nat} {r : List Nat} (h : Lo (x :: r)) : x < 4294967296 := h x (by simp)
theorem Lo.tail {x : Nat} {r : List Nat} (h : Lo (x :: r)) : Lo r := fun y hy => h y (by simp [hy])
theorem Lo.append {xs ys : List Nat} (h : Lo xs) (k : Lo ys) : Lo (xs ++ ys) := fun y hy => by
  rcases List.mem_append.1 hy with hy | hy
  · exact h y hy
  · exact k y hy
theorem Lo.take {xs : List Nat} (h : Lo xs) (k : Nat) : Lo (xs.take k) := fun y hy => h y (List.mem_of_mem_take hy)
theorem Lo.drop {xs : List Nat} (h : Lo xs) (k : Nat) : Lo (xs.drop k) := fun y hy => h y (List.mem_of_mem_drop hy)
theorem Lo.at_ {xs : List Nat} (h : Lo xs) (k : Nat) (hk : k < xs.length) : xs[k] < 4294967296 := h _ (List.getElem_mem hk)

theorem val_append (xs ys : List Nat) : val (xs ++ ys) = val xs + B ^ xs.length * val ys := by
  induction xs with
  | nil => simp [val_nil]
  | cons x r ih => rw [List.cons_append, val_cons, val_cons, ih, List.length_cons, Nat.pow_succ, Nat.mul_add, Nat.add_assoc, Nat.mul_comm (B ^ r.length) B, Nat.mul_assoc]
theorem val_snoc (xs : List Nat) (y : Nat) : val (xs ++ [y]) = val xs + B ^ xs.length * y := by
  rw [val_append]; simp [val_cons, val_nil]
theorem take_snoc (xs : List Nat) (k : Nat) (h : k < xs.length) : xs.take (k + 1) = xs.take k ++ [xs[k]] := List.take_succ_eq_append_getElem h
theorem val_take_succ (xs : List Nat) (k : Nat) (h : k < xs.length) : val (xs.take (k + 1)) = val (xs.take k) + B ^ k * xs[k] := by
  rw [take_snoc xs k h, val_snoc, List.length_take, Nat.min_eq_left (by omega)]
theorem val_split (xs : List Nat) (k : Nat) (h : k ≤ xs.length) : val xs = val (xs.take k) + B ^ k * val (xs.drop k) := by
  conv => lhs; rw [← List.take_append_drop k xs]
  rw [val_append, List.length_take, Nat.min_eq_left h]
theorem val_drop (xs : List Nat) (k : Nat) (h : k < xs.length) : val (xs.drop k) = xs[k] + B * val (xs.drop (k + 1)) := by
  rw [List.drop_eq_getElem_cons h, val_cons]
theorem val_lt {xs : List Nat} (h : Lo xs) : val xs < B ^ xs.length := by
  induction xs with
  | nil => simp [val_nil]
  | cons x r ih =>
    have i := ih h.tail
    have e : B ^ (x :: r).length = B * B ^ r.length := by rw [List.length_cons, Nat.pow_succ, Nat.mul_comm]
    have hx := h.head
    rw [← B_eq] at hx
    rw [val_cons, e]
    have : B * (val r + 1) ≤ B * B ^ r.length := Nat.mul_le_mul_left _ i
    rw [Nat.mul_add] at this
    omega
theorem val_zeros (n : Nat) : val (List.replicate n 0) = 0 := by
  induction n with
  | zero => rfl
  | succ n ih => rw [List.replicate_succ, val_cons, ih, Nat.mul_zero]
theorem val_append_zeros (xs : List Nat) (n : Nat) : val (xs ++ List.replicate n 0) = val xs := by rw [val_append, val_zeros, Nat.mul_zero, Nat.add_zero]

/-- The limbs of a number. -/
def limbs (n : Nat) : List Nat := if h : n = 0 then [] else n % 4294967296 :: limbs (n / 4294967296)
termination_by n
decreasing_by exact Nat.div_lt_self (Nat.pos_of_ne_zero h) (by decide)
theorem limbs_zero : limbs 0 = [] := by rw [limbs]; rfl
theorem limbs_pos {n : Nat} (h : n ≠ 0) : limbs n = n % 4294967296 :: limbs (n / 4294967296) := by rw [limbs, dif_neg h]
theorem lo_limbs (n : Nat) : Lo (limbs n) := by
  induction n using Nat.strongRecOn with
  | _ n ih =>
    by_cases h : n = 0
    · rw [h, limbs_zero]; exact .nil
    · rw [limbs_pos h]
      exact .cons (Nat.mod_lt _ (by decide)) (ih _ (Nat.div_lt_self (Nat.pos_of_ne_zero h) (by decide)))
theorem val_limbs (n : Nat) : val (limbs n) = n := by
  induction n using Nat.strongRecOn with
  | _ n ih =>
    by_cases h : n = 0
    · rw [h, limbs_zero]; rfl
    · rw [limbs_pos h, val_cons, ih _ (Nat.div_lt_self (Nat.pos_of_ne_zero h) (by decide)), B_eq]
      omega
theorem limbs_inj {a b : Nat} (h : limbs a = limbs b) : a = b := by rw [← val_limbs a, ← val_limbs b, h]
theorem limbs_add_mul {x n : Nat} (hx : x < 4294967296) (h : n ≠ 0) : limbs (x + 4294967296 * n) = x :: limbs n := by
  rw [limbs_pos (by omega)]
  have e1 : (x + 4294967296 * n) % 4294967296 = x := by omega
  have e2 : (x + 4294967296 * n) / 4294967296 = n := by omega
  rw [e1, e2]
theorem limbs_one {x : Nat} (hx : x < 4294967296) (h : x ≠ 0) : limbs x = [x] := by
  rw [limbs_pos h]
  have e1 : x % 4294967296 = x := by omega
  have e2 : x / 4294967296 = 0 := by omega
  rw [e1, e2, limbs_zero]
/-- Limbs of which the last one is not 0 are those of their number. -/
theorem limbs_val {xs : List Nat} (h : Lo xs) (k : ∀ hn : xs ≠ [], xs.getLast hn ≠ 0) : limbs (val xs) = xs := by
  induction xs with
  | nil => rw [val_nil, limbs_zero]
  | cons x r ih =>
    rw [val_cons, B_eq]
    by_cases hr : r = []
    · subst hr
      have := k (by simp)
      simp at this
      rw [val_nil, Nat.mul_zero, Nat.add_zero]
      exact limbs_one h.head this
    · have k' : ∀ hn : r ≠ [], r.getLast hn ≠ 0 := fun hn => by
        have := k (by simp)
        rwa [List.getLast_cons hn] at this
      have i := ih h.tail k'
      have nz : val r ≠ 0 := by
        intro e
        rw [e, limbs_zero] at i
        exact hr i.symm
      rw [limbs_add_mul h.head nz, i]
theorem limbs_last (n : Nat) (hn : limbs n ≠ []) : (limbs n).getLast hn ≠ 0 := by
  induction n using Nat.strongRecOn with
  | _ n ih =>
    by_cases h : n = 0
    · subst h; exact absurd limbs_zero hn
    · have e := limbs_pos h
      have : (limbs n).getLast hn = (n % 4294967296 :: limbs (n / 4294967296)).getLast (by simp) := by simp only [e]
      rw [this]
      by_cases h2 : n / 4294967296 = 0
      · have e3 : limbs (n / 4294967296) = [] := by rw [h2, limbs_zero]
        simp only [e3, List.getLast_singleton]
        omega
      · have hne : limbs (n / 4294967296) ≠ [] := by rw [limbs_pos h2]; simp
        rw [List.getLast_cons hne]
        exact ih _ (Nat.div_lt_self (Nat.pos_of_ne_zero h) (by decide)) hne
/-- Noughts at the high end count for nothing. -/
theorem limbs_snoc_zero {xs : List Nat} : limbs (val (xs ++ [0])) = limbs (val xs) := by rw [val_snoc, Nat.mul_zero, Nat.add_zero]

/-- How many limbs. -/
def ln (n : Nat) : Nat := (limbs n).length
theorem ln_zero : ln 0 = 0 := by unfold ln; rw [limbs_zero]; rfl
theorem ln_eq_zero {n : Nat} (h : ln n = 0) : n = 0 := by
  unfold ln at h
  have := List.eq_nil_of_length_eq_zero h
  rw [← val_limbs n, this, val_nil]
theorem ln_pos {n : Nat} (h : n ≠ 0) : 0 < ln n := by
  rcases Nat.eq_zero_or_pos (ln n) with k | k
  · exact absurd (ln_eq_zero k) h
  · exact k
theorem ln_succ {n : Nat} (h : n ≠ 0) : ln n = ln (n / 4294967296) + 1 := by unfold ln; rw [limbs_pos h]; rfl
theorem lt_ln (n : Nat) : n < B ^ ln n := by
  have := val_lt (lo_limbs n)
  rwa [val_limbs] at this
theorem ln_le {n k : Nat} (h : n < B ^ k) : ln n ≤ k := by
  induction k generalizing n with
  | zero =>
    have : n = 0 := by simpa using h
    rw [this, ln_zero]; omega
  | succ k ih =>
    by_cases hz : n = 0
    · rw [hz, ln_zero]; omega
    · rw [ln_succ hz]
      have : n / 4294967296 < B ^ k := by
        rw [Nat.pow_succ, B_eq] at h
        rw [B_eq]
        exact Nat.div_lt_of_lt_mul (by rwa [Nat.mul_comm])
      have := ih this
      omega
theorem le_of_ln {n : Nat} (h : n ≠ 0) : B ^ (ln n - 1) ≤ n := by
  apply Decidable.byContradiction
  intro k
  have := ln_le (show n < B ^ (ln n - 1) by omega)
  have := ln_pos h
  omega
theorem ln_mono {a b : Nat} (h : a ≤ b) : ln a ≤ ln b := ln_le (Nat.lt_of_le_of_lt h (lt_ln b))
theorem ln_val {xs : List Nat} (h : Lo xs) : ln (val xs) ≤ xs.length := ln_le (val_lt h)
theorem limbs_length (n : Nat) : (limbs n).length = ln n := rfl
theorem last_ne_zero {a k : Nat} (hk : k + 1 = (limbs a).length) : (limbs a)[k]'(by omega) ≠ 0 := by
  have hn : limbs a ≠ [] := by intro e; rw [e] at hk; simp at hk
  have := limbs_last a hn
  rw [List.getLast_eq_getElem] at this
  have e : (limbs a).length - 1 = k := by omega
  simpa only [e] using this
theorem val_take_limbs_lt (a k : Nat) : val ((limbs a).take k) < B ^ k := by
  have := val_lt ((lo_limbs a).take k)
  refine Nat.lt_of_lt_of_le this (Nat.pow_le_pow_right B_pos (by simp; omega))
end Go.Proofs.Ytnkhgkpijfohkaa
namespace Go.Proofs.Ytnkhgkpijfohkaa
/-- Are limbs a natural's? -/
def Nt (xs : List Nat) : Prop := xs.length ≤ 64 ∧ ∀ hn : xs ≠ [], xs.getLast hn ≠ 0
theorem Nt.eq {xs : List Nat} (h : Nt xs) (k : Lo xs) : xs = limbs (val xs) := (limbs_val k h.2).symm
theorem Nt.of {a : Nat} (h : ln a ≤ 64) : Nt (limbs a) := ⟨h, fun hn => limbs_last a hn⟩
theorem pred_succ_of_pos {n : Nat} (h : 0 < n) : n - 1 + 1 = n := by omega
theorem Nt.no {xs : List Nat} (h : ¬ Nt xs) (k : xs.length ≤ 64) : ∃ j, j + 1 = xs.length ∧ xs[j]? = some 0 := by
  by_cases hn : xs = []
  · exact absurd ⟨k, fun x => absurd hn x⟩ h
  · have hl : 0 < xs.length := List.length_pos_iff.2 hn
    refine ⟨xs.length - 1, pred_succ_of_pos hl, ?_⟩
    by_cases z : xs.getLast hn = 0
    · rw [List.getLast_eq_getElem] at z
      rw [List.getElem?_eq_getElem (Nat.sub_lt hl Nat.one_pos), z]
    · exact absurd ⟨k, fun _ => z⟩ h
/-- -1, 0 or 1. -/
@[irreducible] def sgn (a b : Nat) : Int := if a < b then -1 else if b < a then 1 else 0
theorem sgn_lt {a b : Nat} (h : a < b) : sgn a b = -1 := by unfold sgn; rw [if_pos h]
theorem sgn_gt {a b : Nat} (h : b < a) : sgn a b = 1 := by unfold sgn; rw [if_neg (by omega), if_pos h]
theorem sgn_eq (a : Nat) : sgn a a = 0 := by unfold sgn; rw [if_neg (by omega), if_neg (by omega)]
theorem sgn_congr {a b c d : Nat} (h : a < b ↔ c < d) (k : b < a ↔ d < c) : sgn a b = sgn c d := by
  unfold sgn
  by_cases p : a < b
  · rw [if_pos p, if_pos (h.1 p)]
  · rw [if_neg p, if_neg (fun x => p (h.2 x))]
    by_cases q : b < a
    · rw [if_pos q, if_pos (k.1 q)]
    · rw [if_neg q, if_neg (fun x => q (k.2 x))]
theorem lt_of_ln_lt {a b : Nat} (h : ln a < ln b) : a < b := by
  apply Decidable.byContradiction
  intro k
  have := ln_mono (show b ≤ a by omega)
  omega
theorem sgn_ln {a b : Nat} (h : ln a ≠ ln b) : sgn (ln a) (ln b) = sgn a b := by
  rcases Nat.lt_or_gt_of_ne h with k | k
  · rw [sgn_lt k, sgn_lt (lt_of_ln_lt k)]
  · rw [sgn_gt k, sgn_gt (lt_of_ln_lt k)]
theorem lt_of_top {P x y s t r : Nat} (hs : s < P) (h : x < y) : s + P * (x + B * r) < t + P * (y + B * r) := by
  have : P * (x + B * r) + P ≤ P * (y + B * r) := by
    rw [← Nat.mul_succ]
    exact Nat.mul_le_mul_left _ (by omega)
  omega
theorem sgn_top {a b k : Nat} (ha : k < (limbs a).length) (hb : k < (limbs b).length) (he : (limbs a).drop (k + 1) = (limbs b).drop (k + 1)) (hne : (limbs a)[k] ≠ (limbs b)[k]) :
    sgn (limbs a)[k] (limbs b)[k] = sgn a b := by
  have ea := val_split (limbs a) k (by omega)
  have eb := val_split (limbs b) k (by omega)
  rw [val_limbs, val_drop _ k ha] at ea
  rw [val_limbs, val_drop _ k hb, ← he] at eb
  have la := val_take_limbs_lt a k
  have lb := val_take_limbs_lt b k
  rcases Nat.lt_or_gt_of_ne hne with h | h
  · rw [sgn_lt h, sgn_lt]
    rw [ea, eb]
    exact lt_of_top la h
  · rw [sgn_gt h, sgn_gt]
    rw [ea, eb]
    exact lt_of_top lb h
theorem drop_step {xs ys : List Nat} {k : Nat} (hx : k < xs.length) (hy : k < ys.length) (h : xs[k] = ys[k]) (he : xs.drop (k + 1) = ys.drop (k + 1)) : xs.drop k = ys.drop k := by
  rw [List.drop_eq_getElem_cons hx, List.drop_eq_getElem_cons hy, h, he]
end Go.Proofs.Ytnkhgkpijfohkaa
namespace Go.Proofs.Ytnkhgkpijfohkaa

/-- An item. -/
structure It where
  k : ByteArray
  u : Nat
  w : Nat
abbrev itv (x : It) : Value := .agg #[.string x.k, .int .u64 (x.u : Int), .int .u64 (x.w : Int)]
/-- It reads as numbers of 64 bits. -/
structure It.Fit (x : It) : Prop where
  u : x.u < 18446744073709551616
  w : x.w < 18446744073709551616
theorem itv_inj {x y : It} (h : itv x = itv y) : x = y := by
  cases x; cases y
  simp only [itv, Value.agg.injEq, Array.mk.injEq, List.cons.injEq, Value.string.injEq, Value.int.injEq, true_and, and_true] at h
  obtain ⟨a, b, c⟩ := h
  have b := Int.ofNat.inj b
  have c := Int.ofNat.inj c
  subst a b c
  rfl

theorem bl_irr : ∀ x : List UInt8, Op.bytesLess x x = false
  | [] => rfl
  | a :: x => by
    rw [Op.bytesLess, bl_irr x]
    have : ¬ a < a := by rw [UInt8.lt_iff_toNat_lt]; omega
    simp [this]
theorem bl_asym : ∀ {x y : List UInt8}, Op.bytesLess x y = true → Op.bytesLess y x = false
  | [], [], h => by simp [Op.bytesLess] at h
  | [], _ :: _, _ => rfl
  | _ :: _, [], h => by simp [Op.bytesLess] at h
  | a :: x, b :: y, h => by
    rw [Op.bytesLess, Bool.or_eq_true, Bool.and_eq_true, decide_eq_true_eq, beq_iff_eq] at h
    have : ¬ (Op.bytesLess (b :: y) (a :: x) = true) := by
      rw [Op.bytesLess, Bool.or_eq_true, Bool.and_eq_true, decide_eq_true_eq, beq_iff_eq]
      rw [UInt8.lt_iff_toNat_lt] at *
      rintro (k | ⟨rfl, k⟩)
      · rcases h with h | ⟨rfl, h⟩ <;> omega
      · rcases h with h | ⟨_, h⟩
        · omega
        · rw [bl_asym h] at k; exact absurd k (by decide)
    simpa using this
theorem bl_trans : ∀ {x y z : List UInt8}, Op.bytesLess x y = true → Op.bytesLess y z = true → Op.bytesLess x z = true
  | _, [], _, h, _ => by cases ‹List UInt8› <;> simp [Op.bytesLess] at h
  | _, _ :: _, [], _, h => by simp [Op.bytesLess] at h
  | [], _ :: _, _ :: _, _, _ => rfl
  | a :: x, b :: y, c :: z, h, k => by
    rw [Op.bytesLess, Bool.or_eq_true, Bool.and_eq_true, decide_eq_true_eq, beq_iff_eq] at *
    rw [UInt8.lt_iff_toNat_lt] at *
    rcases h with h | ⟨rfl, h⟩
    · rcases k with k | ⟨rfl, k⟩ <;> exact .inl (by omega)
    · rcases k with k | ⟨rfl, k⟩
      · exact .inl k
      · exact .inr ⟨rfl, bl_trans h k⟩
theorem bl_eq : ∀ {x y : List UInt8}, Op.bytesLess x y = false → Op.bytesLess y x = false → x = y
  | [], [], _, _ => rfl
  | [], _ :: _, h, _ => by simp [Op.bytesLess] at h
  | _ :: _, [], _, h => by simp [Op.bytesLess] at h
  | a :: x, b :: y, h, k => by
    rw [Op.bytesLess, Bool.or_eq_false_iff, decide_eq_false_iff_not, UInt8.lt_iff_toNat_lt] at h k
    obtain rfl : a = b := UInt8.toNat_inj.1 (by omega)
    simp only [BEq.rfl, Bool.true_and] at h k
    rw [bl_eq h.2 k.2]

/-- Which of two keys is less. -/
@[irreducible] def ksg (a b : ByteArray) : Int := if Op.bytesLess a.toList b.toList = true then -1 else if Op.bytesLess b.toList a.toList = true then 1 else 0
theorem text_eq {a b : ByteArray} (h : a.toList = b.toList) : a = b := by
  rw [ByteArray.toList_eq, ByteArray.toList_eq] at h
  cases a; cases b
  simp only [ByteArray.mk.injEq]
  exact Array.toList_inj.1 h
theorem ksg_anti (a b : ByteArray) : ksg b a = - ksg a b := by
  unfold ksg
  cases h : Op.bytesLess a.toList b.toList
  · cases k : Op.bytesLess b.toList a.toList <;> simp
  · rw [bl_asym h]; simp
theorem ksg_zero {a b : ByteArray} : ksg a b = 0 ↔ a = b := by
  unfold ksg
  constructor
  · intro h
    cases k : Op.bytesLess a.toList b.toList <;> cases l : Op.bytesLess b.toList a.toList <;> rw [k, l] at h <;> simp at h
    exact text_eq (bl_eq k l)
  · rintro rfl
    rw [bl_irr]; simp
theorem ksg_le {a b : ByteArray} : ksg a b ≤ 0 ↔ Op.bytesLess b.toList a.toList = false := by
  unfold ksg
  cases k : Op.bytesLess a.toList b.toList
  · cases l : Op.bytesLess b.toList a.toList <;> simp
  · rw [bl_asym k]; simp
theorem ksg_trans {a b c : ByteArray} (h : ksg a b ≤ 0) (k : ksg b c ≤ 0) : ksg a c ≤ 0 := by
  rw [ksg_le] at *
  cases l : Op.bytesLess c.toList a.toList
  · rfl
  · exfalso
    cases m : Op.bytesLess a.toList b.toList
    · have := text_eq (bl_eq m h)
      subst this
      rw [k] at l; exact absurd l (by decide)
    · rw [bl_trans l m] at k; exact absurd k (by decide)
theorem ksg_cases (a b : ByteArray) : ksg a b = -1 ∨ ksg a b = 0 ∨ ksg a b = 1 := by
  unfold ksg; (repeat' split) <;> simp

theorem sgn_le {a b : Nat} : sgn a b ≤ 0 ↔ a ≤ b := by
  unfold sgn; (repeat' split) <;> omega
theorem sgn_zero {a b : Nat} : sgn a b = 0 ↔ a = b := by
  unfold sgn; (repeat' split) <;> omega
theorem sgn_anti (a b : Nat) : sgn b a = - sgn a b := by
  unfold sgn; (repeat' split) <;> omega
theorem sgn_cases (a b : Nat) : sgn a b = -1 ∨ sgn a b = 0 ∨ sgn a b = 1 := by
  unfold sgn; (repeat' split) <;> simp

/-- Who stands ahead. -/
@[irreducible] def cmpI (a b : It) : Int := if sgn (a.u * b.w) (b.u * a.w) = 0 then ksg a.k b.k else sgn (a.u * b.w) (b.u * a.w)
theorem cmpI_zero {a b : It} : cmpI a b = 0 ↔ a.u * b.w = b.u * a.w ∧ a.k = b.k := by
  unfold cmpI
  split
  · rename_i h; rw [ksg_zero]; rw [sgn_zero] at h; exact ⟨fun k => ⟨h, k⟩, fun k => k.2⟩
  · rename_i h; exact ⟨fun k => absurd k h, fun k => absurd (sgn_zero.2 k.1) h⟩
theorem cmpI_anti (a b : It) : cmpI b a = - cmpI a b := by
  unfold cmpI
  rw [sgn_anti (a.u * b.w) (b.u * a.w), ksg_anti a.k b.k]
  by_cases h : sgn (a.u * b.w) (b.u * a.w) = 0
  · rw [if_pos h, if_pos (by omega)]
  · rw [if_neg h, if_neg (by omega)]
theorem cmpI_self (a : It) : cmpI a a = 0 := cmpI_zero.2 ⟨rfl, rfl⟩
theorem cmpI_cases (a b : It) : cmpI a b = -1 ∨ cmpI a b = 0 ∨ cmpI a b = 1 := by
  unfold cmpI; split
  · exact ksg_cases _ _
  · exact sgn_cases _ _
theorem cmpI_le {a b : It} : cmpI a b ≤ 0 ↔ a.u * b.w < b.u * a.w ∨ (a.u * b.w = b.u * a.w ∧ ksg a.k b.k ≤ 0) := by
  unfold cmpI
  split
  · rename_i h; rw [sgn_zero] at h; omega
  · rename_i h; rw [sgn_le]; rw [sgn_zero] at h; omega
theorem cross {a b c d e f : Nat} (hf : 0 < d) (h : a * d ≤ c * b) (k : c * f ≤ e * d) : a * f ≤ e * b := by
  -- a/b ≤ c/d ≤ e/f
  have h1 : a * d * f ≤ c * b * f := Nat.mul_le_mul_right f h
  have h2 : c * f * b ≤ e * d * b := Nat.mul_le_mul_right b k
  have h3 : (a * f) * d ≤ (e * b) * d := by
    rw [Nat.mul_right_comm a f d, Nat.mul_right_comm e b d]
    refine Nat.le_trans h1 ?_
    rw [Nat.mul_right_comm c b f]
    exact h2
  exact Nat.le_of_mul_le_mul_right h3 hf
/-- Of items that may be the order goes through. -/
theorem cmpI_trans {a b c : It} (hb : 0 < b.w) (hc : 0 < c.w) (ha : 0 < a.w) (h : cmpI a b ≤ 0) (k : cmpI b c ≤ 0) : cmpI a c ≤ 0 := by
  rw [cmpI_le] at *
  have h1 : a.u * b.w ≤ b.u * a.w := by omega
  have k1 : b.u * c.w ≤ c.u * b.w := by omega
  have ac : a.u * c.w ≤ c.u * a.w := cross hb h1 k1
  by_cases e : a.u * c.w = c.u * a.w
  · have ca : c.u * a.w ≤ a.u * c.w := by omega
    have cb : c.u * b.w ≤ b.u * c.w := cross ha ca h1
    have ba : b.u * a.w ≤ a.u * b.w := cross hc k1 ca
    refine .inr ⟨e, ?_⟩
    have h2 : ksg a.k b.k ≤ 0 := by omega
    have k2 : ksg b.k c.k ≤ 0 := by omega
    exact ksg_trans h2 k2
  · exact .inl (by omega)
theorem cmpI_ge {a b : It} (h : ¬ cmpI a b < 0) : cmpI b a ≤ 0 := by rw [cmpI_anti a b]; omega

/-- In order. -/
def Sorted (s : List It) : Prop := s.Pairwise fun a b => cmpI a b ≤ 0
/-- Those that are equal to one. -/
def Cls (z : It) (s : List It) : List It := s.filter fun y => decide (cmpI z y = 0)
theorem Cls_app (z : It) (s t : List It) : Cls z (s ++ t) = Cls z s ++ Cls z t := List.filter_append ..
theorem Cls_nil {z : It} {s : List It} (h : ∀ y ∈ s, cmpI z y ≠ 0) : Cls z s = [] := by
  unfold Cls
  rw [List.filter_eq_nil_iff]
  intro y hy
  simpa using h y hy
theorem Cls_one {z x : It} (h : cmpI z x = 0) : Cls z [x] = [x] := by
  unfold Cls; rw [List.filter_cons_of_pos (by simpa using h)]; rfl
theorem Cls_none {z x : It} (h : cmpI z x ≠ 0) : Cls z [x] = [] := by
  unfold Cls; rw [List.filter_cons_of_neg (by simpa using h)]; rfl
theorem Cls_cons (z x : It) (s : List It) : Cls z (x :: s) = Cls z [x] ++ Cls z s := Cls_app z [x] s
theorem Cls_mem {z x : It} {s : List It} : x ∈ Cls z s ↔ x ∈ s ∧ cmpI z x = 0 := by
  unfold Cls; rw [List.mem_filter, decide_eq_true_eq]
def May (s : List It) : Prop := ∀ y ∈ s, 0 < y.w
theorem sorted_one : ∀ {s t : List It}, Sorted s → Sorted t → May s → May t → (∀ z, 0 < z.w → Cls z s = Cls z t) → s = t
  | [], [], _, _, _, _, _ => rfl
  | [], b :: t, _, _, _, mt, h => by
    have := h b (mt b (.head _))
    rw [Cls_cons, Cls_one (cmpI_self b)] at this
    exact absurd this (by simp [Cls])
  | a :: s, [], _, _, ms, _, h => by
    have := h a (ms a (.head _))
    rw [Cls_cons, Cls_one (cmpI_self a)] at this
    exact absurd this (by simp [Cls])
  | a :: s, b :: t, ss, st, ms, mt, h => by
    have wa := ms a (.head _)
    have wb := mt b (.head _)
    have first : ∀ {x : It} {l : List It}, Sorted (x :: l) → ∀ y ∈ x :: l, cmpI x y ≤ 0 := by
      intro x l hs y hy
      rcases List.mem_cons.1 hy with rfl | hy
      · rw [cmpI_self]; exact Int.le_refl _
      · exact (List.pairwise_cons.1 hs).1 y hy
    have hab : cmpI a b = 0 := by
      obtain ⟨c1, c2⟩ := Cls_mem.1 (show a ∈ Cls a (b :: t) by rw [← h a wa]; exact Cls_mem.2 ⟨.head _, cmpI_self a⟩)
      obtain ⟨d1, d2⟩ := Cls_mem.1 (show b ∈ Cls b (a :: s) by rw [h b wb]; exact Cls_mem.2 ⟨.head _, cmpI_self b⟩)
      have e1 := first st a c1
      have e2 := first ss b d1
      have := cmpI_anti a b
      omega
    have e := h a wa
    rw [Cls_cons a a, Cls_cons a b, Cls_one (cmpI_self a), Cls_one hab] at e
    obtain rfl : a = b := by simpa using congrArg List.head? e
    have rest := sorted_one (List.pairwise_cons.1 ss).2 (List.pairwise_cons.1 st).2 (fun y hy => ms y (.tail _ hy)) (fun y hy => mt y (.tail _ hy)) (fun z hz => by
      have := h z hz
      rw [Cls_cons z a s, Cls_cons z a t] at this
      exact List.append_cancel_left this)
    rw [rest]
/-- The items of l in order; those that are equal, in the order of l. -/
structure IsSort (l s : List It) : Prop where
  sorted : Sorted s
  perm : s.Perm l
  cls : ∀ z, 0 < z.w → Cls z s = Cls z l
theorem IsSort.may {l s : List It} (h : IsSort l s) (m : May l) : May s := fun y hy => m y (h.perm.mem_iff.1 hy)
theorem IsSort.len {l s : List It} (h : IsSort l s) : s.length = l.length := h.perm.length_eq
/-- There is one alone. -/
theorem IsSort.one {l s t : List It} (m : May l) (h : IsSort l s) (k : IsSort l t) : s = t :=
  sorted_one h.sorted k.sorted (h.may m) (k.may m) (fun z hz => (h.cls z hz).trans (k.cls z hz).symm)
theorem isSort_nil : IsSort [] [] := ⟨.nil, .refl _, fun _ _ => rfl⟩
/-- One more, behind all that don't stand behind it. -/
theorem IsSort.put {l s : List It} {x : It} (h : IsSort l s) (m : May l) (hx : 0 < x.w) (n : Nat) (h1 : ∀ y ∈ s.take n, cmpI y x ≤ 0) (h2 : ∀ y ∈ s.drop n, cmpI x y < 0) :
    IsSort (l ++ [x]) (s.take n ++ x :: s.drop n) := by
  have sp : Sorted (s.take n ++ s.drop n) := by rw [List.take_append_drop]; exact h.sorted
  have ms := h.may m
  obtain ⟨p1, p2, p3⟩ := List.pairwise_append.1 sp
  refine ⟨List.pairwise_append.2 ⟨p1, List.pairwise_cons.2 ⟨fun y hy => Int.le_of_lt (h2 y hy), p2⟩, fun a ha b hb => ?_⟩, ?_, fun z hz => ?_⟩
  · rcases List.mem_cons.1 hb with rfl | hb
    · exact h1 a ha
    · exact p3 a ha b hb
  · refine List.perm_middle.trans ?_
    rw [List.take_append_drop]
    exact (List.Perm.cons x h.perm).trans (List.perm_append_comm (l₁ := [x]))
  · rw [Cls_app, Cls_cons, Cls_app, ← h.cls z hz]
    have e : Cls z s = Cls z (s.take n) ++ Cls z (s.drop n) := by rw [← Cls_app, List.take_append_drop]
    rw [e]
    by_cases q : cmpI z x = 0
    · have : Cls z (s.drop n) = [] := Cls_nil fun y hy hzy => by
        have a := h2 y hy
        have wy := ms y (List.mem_of_mem_drop hy)
        have b : cmpI y x ≤ 0 := cmpI_trans hz hx wy (by have := cmpI_anti z y; omega) (by omega)
        have := cmpI_anti x y
        omega
      rw [this, List.append_nil, List.append_nil]
    · rw [Cls_none q, List.nil_append, List.append_nil]
/-- Two stretches change places, each of the second ahead of each of the first: those that are equal stay in order. -/
theorem Cls_swap (A X Y B : List It) (m : May X) (my : May Y) (h : ∀ x ∈ X, ∀ y ∈ Y, cmpI y x < 0) (z : It) (hz : 0 < z.w) : Cls z (A ++ (Y ++ (X ++ B))) = Cls z (A ++ (X ++ (Y ++ B))) := by
  have e : Cls z Y ++ Cls z X = Cls z X ++ Cls z Y := by
    by_cases q : Cls z X = []
    · rw [q]; simp
    · have : Cls z Y = [] := Cls_nil fun y hy hzy => by
        obtain ⟨x, hx⟩ := List.exists_mem_of_ne_nil _ q
        obtain ⟨a, b⟩ := Cls_mem.1 hx
        have c := h x a y hy
        have : cmpI x y ≤ 0 := cmpI_trans hz (my y hy) (m x a) (by have := cmpI_anti z x; omega) (by omega)
        have := cmpI_anti x y
        omega
      rw [this]; simp
  rw [Cls_app, Cls_app, Cls_app, Cls_app, Cls_app, Cls_app, ← List.append_assoc (Cls z Y), e, List.append_assoc]
end Go.Proofs.Ytnkhgkpijfohkaa
namespace Go.Proofs.Ytnkhgkpijfohkaa
/-- The same items; those that are equal, as they came. -/
structure Keeps (l s : List It) : Prop where
  perm : s.Perm l
  cls : ∀ z, 0 < z.w → Cls z s = Cls z l
section
variable {l s t l' s' X Y : List It}
theorem Keeps.refl (l : List It) : Keeps l l := ⟨.refl _, fun _ _ => rfl⟩
theorem Keeps.trans (h : Keeps l s) (k : Keeps s t) : Keeps l t := ⟨k.perm.trans h.perm, fun z hz => (k.cls z hz).trans (h.cls z hz)⟩
theorem Keeps.may (h : Keeps l s) (m : May l) : May s := fun y hy => m y (h.perm.mem_iff.1 hy)
theorem Keeps.len (h : Keeps l s) : s.length = l.length := h.perm.length_eq
theorem Keeps.app (h : Keeps l s) (k : Keeps l' s') : Keeps (l ++ l') (s ++ s') := ⟨h.perm.append k.perm, fun z hz => by rw [Cls_app, Cls_app, h.cls z hz, k.cls z hz]⟩
theorem IsSort.keeps (h : IsSort l s) : Keeps l s := ⟨h.perm, h.cls⟩
theorem Keeps.sort (h : Keeps l s) (k : Sorted s) : IsSort l s := ⟨k, h.perm, h.cls⟩
theorem May.app (h : May l) (k : May s) : May (l ++ s) := fun y hy => (List.mem_append.1 hy).elim (h y) (k y)
theorem May.left (h : May (l ++ s)) : May l := fun y hy => h y (List.mem_append_left _ hy)
theorem May.right (h : May (l ++ s)) : May s := fun y hy => h y (List.mem_append_right _ hy)
/-- Two stretches change places, each of the second ahead of each of the first. -/
theorem Keeps.turn (mx : May X) (my : May Y) (h : ∀ x ∈ X, ∀ y ∈ Y, cmpI y x < 0) : Keeps (X ++ Y) (Y ++ X) :=
  ⟨List.perm_append_comm, fun z hz => by simpa using Cls_swap [] X Y [] mx my h z hz⟩
end
theorem Sorted.left {s t : List It} (h : Sorted (s ++ t)) : Sorted s := (List.pairwise_append.1 h).1
theorem Sorted.right {s t : List It} (h : Sorted (s ++ t)) : Sorted t := (List.pairwise_append.1 h).2.1
theorem Sorted.cross {s t : List It} (h : Sorted (s ++ t)) : ∀ x ∈ s, ∀ y ∈ t, cmpI x y ≤ 0 := (List.pairwise_append.1 h).2.2
theorem Sorted.mk {s t : List It} (h : Sorted s) (k : Sorted t) (c : ∀ x ∈ s, ∀ y ∈ t, cmpI x y ≤ 0) : Sorted (s ++ t) := List.pairwise_append.2 ⟨h, k, c⟩
theorem sorted_short {s : List It} (h : s.length ≤ 1) : Sorted s := by
  match s, h with
  | [], _ => exact .nil
  | [x], _ => exact List.pairwise_singleton _ _
/-- What stands at a place. -/
@[irreducible] def nth (s : List It) (i : Nat) : It := s.getD i ⟨⟨#[]⟩, 0, 0⟩
theorem nth_eq {s : List It} {i : Nat} (h : i < s.length) : nth s i = s[i] := by unfold nth; rw [List.getD_eq_getElem?_getD, List.getElem?_eq_getElem h]; rfl
theorem nth_some {s : List It} {i : Nat} {x : It} (h : s[i]? = some x) : nth s i = x := by unfold nth; rw [List.getD_eq_getElem?_getD, h]; rfl
theorem nth_mid (X Y : List It) (x : It) : nth (X ++ x :: Y) X.length = x := nth_some (by simp)
theorem nth_right (X Y : List It) (i : Nat) : nth (X ++ Y) (X.length + i) = nth Y i := by
  unfold nth; rw [List.getD_eq_getElem?_getD, List.getD_eq_getElem?_getD, List.getElem?_append_right (by omega), show X.length + i - X.length = i by omega]
theorem nth_left {X : List It} (Y : List It) {i : Nat} (h : i < X.length) : nth (X ++ Y) i = nth X i := by
  unfold nth; rw [List.getD_eq_getElem?_getD, List.getD_eq_getElem?_getD, List.getElem?_append_left h]
theorem nth_mem {s : List It} {i : Nat} (h : i < s.length) : nth s i ∈ s := by rw [nth_eq h]; exact List.getElem_mem h
/-- Two places change what stands there. -/
def swp (s : List It) (i j : Nat) : List It := (s.set i (nth s j)).set j (nth s i)
theorem swp_len (s : List It) (i j : Nat) : (swp s i j).length = s.length := by simp [swp]
theorem swp_comm (s : List It) (i j : Nat) : swp s i j = swp s j i := by
  unfold swp
  by_cases h : i = j
  · subst h; rfl
  · rw [List.set_comm _ _ h]
theorem swp_app (X Y Z : List It) (x y : It) {i j : Nat} (hi : i = X.length) (hj : j = X.length + 1 + Y.length) : swp (X ++ x :: (Y ++ y :: Z)) i j = X ++ y :: (Y ++ x :: Z) := by
  subst hi hj
  have e1 : nth (X ++ x :: (Y ++ y :: Z)) X.length = x := nth_mid ..
  have e2 : nth (X ++ x :: (Y ++ y :: Z)) (X.length + 1 + Y.length) = y := by
    rw [show X.length + 1 + Y.length = X.length + (1 + Y.length) by omega, nth_right]
    have := nth_mid (x :: Y) Z y
    simpa [Nat.add_comm] using this
  unfold swp
  rw [e1, e2]
  rw [List.set_append_right _ _ (Nat.le_refl _), Nat.sub_self, List.set_cons_zero, List.set_append_right _ _ (by omega), show X.length + 1 + Y.length - X.length = Y.length + 1 by omega, List.set_cons_succ, List.set_append_right _ _ (Nat.le_refl _), Nat.sub_self, List.set_cons_zero]
theorem swp_next (X Z : List It) (x y : It) {i j : Nat} (hi : i = X.length) (hj : j = X.length + 1) : swp (X ++ x :: y :: Z) i j = X ++ y :: x :: Z := swp_app X [] Z x y hi (by simpa using hj)
theorem mem_swp {s : List It} {i j : Nat} {x : It} (hi : i < s.length) (hj : j < s.length) (h : x ∈ swp s i j) : x ∈ s := by
  unfold swp at h
  rcases List.mem_or_eq_of_mem_set h with h | rfl
  · rcases List.mem_or_eq_of_mem_set h with h | rfl
    · exact h
    · exact nth_mem hj
  · exact nth_mem hi

/-- Of what is in order each stands ahead of what is behind it. -/
theorem Sorted.at_ {s : List It} (h : Sorted s) {i j : Nat} (hij : i < j) (hj : j < s.length) : cmpI (nth s i) (nth s j) ≤ 0 := by
  rw [nth_eq hj, nth_eq (by omega)]
  exact List.pairwise_iff_getElem.1 h i j (by omega) hj hij
theorem Sorted.take {s : List It} (h : Sorted s) (k : Nat) : Sorted (s.take k) := List.Pairwise.sublist (List.take_sublist _ _) h
theorem Sorted.drop {s : List It} (h : Sorted s) (k : Nat) : Sorted (s.drop k) := List.Pairwise.sublist (List.drop_sublist _ _) h
/-- All up to a place: no farther than what stands there. -/
theorem Sorted.upto {s : List It} (h : Sorted s) (m : May s) {z : It} (hz : 0 < z.w) {k : Nat} (hk : k < s.length) (c : cmpI (nth s k) z ≤ 0) : ∀ x ∈ s.take (k + 1), cmpI x z ≤ 0 := by
  intro x hx
  obtain ⟨i, hi, rfl⟩ := List.mem_iff_getElem.1 hx
  rw [List.getElem_take]
  have hi2 : i < k + 1 := by rw [List.length_take] at hi; omega
  by_cases e : i = k
  · subst e; rw [← nth_eq hk]; exact c
  · have := h.at_ (show i < k by omega) hk
    rw [nth_eq (show i < s.length by omega)] at this
    refine cmpI_trans ?_ hz (m _ (List.getElem_mem _)) this c
    rw [nth_eq hk]; exact m _ (List.getElem_mem _)
theorem cmpI_lt_trans {a b c : It} (hb : 0 < b.w) (hc : 0 < c.w) (ha : 0 < a.w) (h : cmpI a b ≤ 0) (k : cmpI b c < 0) : cmpI a c < 0 := by
  have q := cmpI_trans hb hc ha h (by omega)
  by_cases e : cmpI a c = 0
  · exfalso
    have c1 := cmpI_anti a c
    have := cmpI_trans ha hb hc (a := c) (b := a) (c := b) (by omega) h
    have c2 := cmpI_anti b c
    omega
  · omega
theorem cmpI_trans_lt {a b c : It} (hb : 0 < b.w) (hc : 0 < c.w) (ha : 0 < a.w) (h : cmpI a b < 0) (k : cmpI b c ≤ 0) : cmpI a c < 0 := by
  have q := cmpI_trans hb hc ha (by omega) k
  by_cases e : cmpI a c = 0
  · exfalso
    have c1 := cmpI_anti a c
    have := cmpI_trans hc ha hb (a := b) (b := c) (c := a) k (by omega)
    have c2 := cmpI_anti a b
    omega
  · omega
theorem Sorted.upto_lt {s : List It} (h : Sorted s) (m : May s) {z : It} (hz : 0 < z.w) {k : Nat} (hk : k < s.length) (c : cmpI (nth s k) z < 0) : ∀ x ∈ s.take (k + 1), cmpI x z < 0 := by
  intro x hx
  obtain ⟨i, hi, rfl⟩ := List.mem_iff_getElem.1 hx
  rw [List.getElem_take]
  have hi2 : i < k + 1 := by rw [List.length_take] at hi; omega
  by_cases e : i = k
  · subst e; rw [← nth_eq hk]; exact c
  · have := h.at_ (show i < k by omega) hk
    rw [nth_eq (show i < s.length by omega)] at this
    refine cmpI_lt_trans ?_ hz (m _ (List.getElem_mem _)) this c
    rw [nth_eq hk]; exact m _ (List.getElem_mem _)
/-- All from a place on. -/
theorem Sorted.from_ {s : List It} (h : Sorted s) (m : May s) {z : It} (hz : 0 < z.w) {k : Nat} (hk : k < s.length) (c : cmpI z (nth s k) ≤ 0) : ∀ x ∈ s.drop k, cmpI z x ≤ 0 := by
  intro x hx
  obtain ⟨i, hi, rfl⟩ := List.mem_iff_getElem.1 hx
  rw [List.getElem_drop]
  rw [List.length_drop] at hi
  by_cases e : i = 0
  · subst e; rw [← nth_eq (show k + 0 < s.length by omega)]; exact c
  · have := h.at_ (show k < k + i by omega) (by omega)
    rw [nth_eq (show k + i < s.length by omega)] at this
    refine cmpI_trans ?_ (m _ (List.getElem_mem _)) hz c this
    rw [nth_eq hk]; exact m _ (List.getElem_mem _)
theorem Sorted.from_lt {s : List It} (h : Sorted s) (m : May s) {z : It} (hz : 0 < z.w) {k : Nat} (hk : k < s.length) (c : cmpI z (nth s k) < 0) : ∀ x ∈ s.drop k, cmpI z x < 0 := by
  intro x hx
  obtain ⟨i, hi, rfl⟩ := List.mem_iff_getElem.1 hx
  rw [List.getElem_drop]
  rw [List.length_drop] at hi
  by_cases e : i = 0
  · subst e; rw [← nth_eq (show k + 0 < s.length by omega)]; exact c
  · have := h.at_ (show k < k + i by omega) (by omega)
    rw [nth_eq (show k + i < s.length by omega)] at this
    refine cmpI_trans_lt ?_ (m _ (List.getElem_mem _)) hz c this
    rw [nth_eq hk]; exact m _ (List.getElem_mem _)

/-- Both parts of two stretches in order, merged each for itself: all of it merged. -/
theorem merge_parts {U1 U2 V1 V2 W1 W2 : List It} (su : Sorted (U1 ++ U2)) (sv : Sorted (V1 ++ V2)) (m : May ((U1 ++ U2) ++ (V1 ++ V2)))
    (c1 : ∀ x ∈ U1, ∀ y ∈ V2, cmpI x y ≤ 0) (c2 : ∀ x ∈ U2, ∀ y ∈ V1, cmpI y x < 0) (h1 : IsSort (U1 ++ V1) W1) (h2 : IsSort (U2 ++ V2) W2) : IsSort ((U1 ++ U2) ++ (V1 ++ V2)) (W1 ++ W2) := by
  have mU1 := m.left.left; have mU2 := m.left.right; have mV1 := m.right.left; have mV2 := m.right.right
  have k : Keeps ((U1 ++ U2) ++ (V1 ++ V2)) ((U1 ++ V1) ++ (U2 ++ V2)) := by
    have := (Keeps.refl U1).app ((Keeps.turn mU2 mV1 c2).app (Keeps.refl V2))
    simpa only [List.append_assoc] using this
  refine (k.trans (h1.keeps.app h2.keeps)).sort (h1.sorted.mk h2.sorted fun x hx y hy => ?_)
  rcases List.mem_append.1 (h1.perm.mem_iff.1 hx) with hx | hx <;> rcases List.mem_append.1 (h2.perm.mem_iff.1 hy) with hy | hy
  · exact su.cross x hx y hy
  · exact c1 x hx y hy
  · exact Int.le_of_lt (c2 y hy x hx)
  · exact sv.cross x hx y hy
theorem isSort_of_sorted {s : List It} (h : Sorted s) : IsSort s s := (Keeps.refl s).sort h

/-! The search of symMerge. -/
/-- It goes on. -/
def Low (s : List It) (p c : Nat) : Prop := ¬ cmpI (nth s (p - c)) (nth s c) < 0
theorem nth_u (P U V Q : List It) {i : Nat} (h : i < U.length) : nth (P ++ (U ++ (V ++ Q))) (P.length + i) = nth U i := by rw [nth_right, nth_left _ h]
theorem nth_v (P U V Q : List It) {i : Nat} (h : i < V.length) : nth (P ++ (U ++ (V ++ Q))) (P.length + U.length + i) = nth V i := by
  rw [show P.length + U.length + i = P.length + (U.length + i) by omega, nth_right, nth_right, nth_left _ h]
/-- Where the search ends: what is ahead of it on the left stands not behind what is behind it on the right; what is behind on the left stands behind what is ahead on the right. -/
theorem search_end {P U V Q : List It} (su : Sorted U) (sv : Sorted V) (mu : May U) (mv : May V) {mid n p st s0 r0 : Nat} (hmid : mid = (P.length + (P.length + U.length + V.length)) / 2) (hn : n = mid + (P.length + U.length)) (hp : p = n - 1)
    (hs0 : s0 = if P.length + U.length > mid then n - (P.length + U.length + V.length) else P.length) (hr0 : r0 = if P.length + U.length > mid then mid else P.length + U.length)
    (h0 : s0 ≤ st) (h1 : st ≤ r0) (a : st = s0 ∨ Low (P ++ (U ++ (V ++ Q))) p (st - 1)) (b : st = r0 ∨ ¬ Low (P ++ (U ++ (V ++ Q))) p st) :
    (∀ x ∈ U.take (st - P.length), ∀ y ∈ V.drop (mid - st), cmpI x y ≤ 0) ∧ ∀ x ∈ U.drop (st - P.length), ∀ y ∈ V.take (mid - st), cmpI y x < 0 := by
  generalize hs : P ++ (U ++ (V ++ Q)) = s at *
  have e0 : P.length ≤ s0 ∧ s0 ≤ r0 ∧ r0 ≤ mid ∧ r0 ≤ P.length + U.length ∧ (s0 = P.length ∨ s0 + V.length = mid) ∧ (r0 = mid ∨ r0 = P.length + U.length) ∧ mid ≤ s0 + V.length := by
    rw [hs0, hr0]; split <;> omega
  obtain ⟨f1, f2, f3, f4, f5, f6, f7⟩ := e0
  clear hs0 hr0
  constructor
  · rcases a with a | a
    · rcases f5 with f | f
      · rw [show st - P.length = 0 by omega, List.take_zero]; intro x hx; exact absurd hx (by simp)
      · rw [List.drop_eq_nil_of_le (by omega)]; intro x _ y hy; exact absurd hy (by simp)
    · by_cases es : st = s0
      · rcases f5 with f | f
        · rw [show st - P.length = 0 by omega, List.take_zero]; intro x hx; exact absurd hx (by simp)
        · rw [List.drop_eq_nil_of_le (by omega)]; intro x _ y hy; exact absurd hy (by simp)
      · unfold Low at a
        have q1 : nth s (p - (st - 1)) = nth V (mid - st) := by
          rw [← hs, show p - (st - 1) = P.length + U.length + (mid - st) by omega]; exact nth_v _ _ _ _ (by omega)
        have q2 : nth s (st - 1) = nth U (st - 1 - P.length) := by
          rw [← hs, show st - 1 = P.length + (st - 1 - P.length) by omega, nth_u _ _ _ _ (by omega)]; rw [show P.length + (st - 1 - P.length) - P.length = st - 1 - P.length by omega]
        rw [q1, q2] at a
        have a := cmpI_ge a
        intro x hx y hy
        have hx' : x ∈ U.take (st - 1 - P.length + 1) := by rw [show st - 1 - P.length + 1 = st - P.length by omega]; exact hx
        have wv : 0 < (nth V (mid - st)).w := mv _ (nth_mem (by omega))
        have x1 := su.upto mu wv (k := st - 1 - P.length) (by omega) a x hx'
        have y1 := sv.from_ mv (z := x) (mu _ (List.mem_of_mem_take hx)) (k := mid - st) (by omega) x1 y hy
        exact y1
  · by_cases es : st = r0
    · rcases f6 with f | f
      · rw [show mid - st = 0 by omega, List.take_zero]; intro x _ y hy; exact absurd hy (by simp)
      · rw [List.drop_eq_nil_of_le (by omega)]; intro x hx; exact absurd hx (by simp)
    · have b := b.resolve_left es
      unfold Low at b
      have q1 : nth s (p - st) = nth V (mid - st - 1) := by
        rw [← hs, show p - st = P.length + U.length + (mid - st - 1) by omega]; exact nth_v _ _ _ _ (by omega)
      have q2 : nth s st = nth U (st - P.length) := by
        rw [← hs, show st = P.length + (st - P.length) by omega, nth_u _ _ _ _ (by omega)]; rw [show P.length + (st - P.length) - P.length = st - P.length by omega]
      rw [q1, q2] at b
      have b : cmpI (nth V (mid - st - 1)) (nth U (st - P.length)) < 0 := by
        by_cases e : cmpI (nth V (mid - st - 1)) (nth U (st - P.length)) < 0
        · exact e
        · exact absurd e b
      intro x hx y hy
      have hy' : y ∈ V.take (mid - st - 1 + 1) := by rw [show mid - st - 1 + 1 = mid - st by omega]; exact hy
      have wu : 0 < (nth U (st - P.length)).w := mu _ (nth_mem (by omega))
      have y1 := sv.upto_lt mv wu (k := mid - st - 1) (by omega) b y hy'
      exact su.from_lt mu (z := y) (mv _ (List.mem_of_mem_take hy)) (k := st - P.length) (by omega) y1 x hx
end Go.Proofs.Ytnkhgkpijfohkaa
namespace Go.Proofs.Ytnkhgkpijfohkaa
set_option linter.unusedVariables false
theorem nth_swp {s : List It} {i j k : Nat} (hi : i < s.length) (hj : j < s.length) : nth (swp s i j) k = if k = j then nth s i else if k = i then nth s j else nth s k := by
  unfold swp
  by_cases e : k = j
  · subst e
    rw [if_pos rfl]
    exact nth_some (by simp [hj])
  · rw [if_neg e]
    by_cases f : k = i
    · subst f
      rw [if_pos rfl]
      refine nth_some ?_
      rw [List.getElem?_set_ne (Ne.symm e)]
      simp [hi]
    · rw [if_neg f]
      unfold nth
      rw [List.getD_eq_getElem?_getD, List.getElem?_set_ne (Ne.symm e), List.getElem?_set_ne (Ne.symm f), List.getD_eq_getElem?_getD]
theorem perm_swp {s : List It} {i j : Nat} (hi : i < s.length) (hj : j < s.length) : (swp s i j).Perm s := by
  unfold swp
  rw [nth_eq hi, nth_eq hj]
  exact List.set_set_perm hi hj
theorem may_nth {s : List It} (m : May s) {i : Nat} (h : i < s.length) : 0 < (nth s i).w := m _ (nth_mem h)
theorem may_perm {s t : List It} (h : s.Perm t) (m : May t) : May s := fun y hy => m y (h.mem_iff.1 hy)
/-- A heap: none stands behind the one above it. -/
def HeapP (h : List It) : Prop := ∀ k, 0 < k → k < h.length → cmpI (nth h k) (nth h ((k - 1) / 2)) ≤ 0
/-- To lift the one at a place. -/
def liftL (h : List It) (i : Nat) : List It := if c : i = 0 then h else if cmpI (nth h i) (nth h ((i - 1) / 2)) ≤ 0 then h else liftL (swp h i ((i - 1) / 2)) ((i - 1) / 2)
  termination_by i
  decreasing_by omega
/-- The one of both below a place that stands behind the other. -/
def kid (h : List It) (i : Nat) : Nat := if 2 * i + 2 < h.length ∧ cmpI (nth h (2 * i + 1)) (nth h (2 * i + 2)) < 0 then 2 * i + 2 else 2 * i + 1
/-- To sink it. -/
def sinkL (h : List It) (i : Nat) : List It := if c : h.length ≤ 2 * i + 1 then h else if 0 ≤ cmpI (nth h i) (nth h (kid h i)) then h else sinkL (swp h i (kid h i)) (kid h i)
  termination_by h.length - i
  decreasing_by
    rw [swp_len]
    unfold kid
    split <;> omega
theorem kid_lt {h : List It} {i : Nat} (c : ¬ h.length ≤ 2 * i + 1) : kid h i < h.length ∧ i < kid h i ∧ (kid h i - 1) / 2 = i := by
  unfold kid
  split <;> omega
theorem kid_top {h : List It} {i k : Nat} (m : May h) (c : ¬ h.length ≤ 2 * i + 1) (hk : k < h.length) (h0 : 0 < k) (hp : (k - 1) / 2 = i) : cmpI (nth h k) (nth h (kid h i)) ≤ 0 := by
  unfold kid
  split
  · rename_i q
    by_cases e : k = 2 * i + 2
    · subst e; rw [cmpI_self]; exact Int.le_refl _
    · obtain rfl : k = 2 * i + 1 := by omega
      omega
  · rename_i q
    by_cases e : k = 2 * i + 1
    · subst e; rw [cmpI_self]; exact Int.le_refl _
    · obtain rfl : k = 2 * i + 2 := by omega
      have : ¬ cmpI (nth h (2 * i + 1)) (nth h (2 * i + 2)) < 0 := fun z => q ⟨hk, z⟩
      exact cmpI_ge this
theorem liftL_perm : ∀ (i : Nat) (h : List It), i < h.length → (liftL h i).Perm h := by
  intro i
  induction i using Nat.strongRecOn with
  | _ i ih =>
    intro h hi
    unfold liftL
    split
    · exact .refl _
    · split
      · exact .refl _
      · exact (ih _ (by omega) _ (by rw [swp_len]; omega)).trans (perm_swp hi (by omega))
theorem liftL_len {h : List It} {i : Nat} (hi : i < h.length) : (liftL h i).length = h.length := (liftL_perm i h hi).length_eq
theorem sinkL_perm : ∀ (n : Nat) (h : List It) (i : Nat), h.length - i ≤ n → i < h.length → (sinkL h i).Perm h := by
  intro n
  induction n with
  | zero => intro h i hn hi; omega
  | succ n ih =>
    intro h i hn hi
    unfold sinkL
    split
    · exact .refl _
    · rename_i c
      obtain ⟨k1, k2, k3⟩ := kid_lt c
      split
      · exact .refl _
      · exact (ih _ _ (by rw [swp_len]; omega) (by rw [swp_len]; exact k1)).trans (perm_swp hi k1)
theorem sinkL_len {h : List It} {i : Nat} (hi : i < h.length) : (sinkL h i).length = h.length := (sinkL_perm _ h i (Nat.le_refl _) hi).length_eq
/-- Lifted, where all else is in order: a heap. -/
theorem liftL_heap : ∀ (i : Nat) (h : List It), May h → i < h.length → (∀ k, 0 < k → k < h.length → k ≠ i → cmpI (nth h k) (nth h ((k - 1) / 2)) ≤ 0) → (∀ k, 0 < k → k < h.length → (k - 1) / 2 = i → 0 < i → cmpI (nth h k) (nth h ((i - 1) / 2)) ≤ 0) → HeapP (liftL h i) := by
  intro i
  induction i using Nat.strongRecOn with
  | _ i ih =>
    intro h m hi h1 h2
    unfold liftL
    split
    · rename_i e
      intro k k0 kl
      exact h1 k k0 kl (by omega)
    · rename_i e
      split
      · rename_i c
        intro k k0 kl
        by_cases ek : k = i
        · subst ek; exact c
        · exact h1 k k0 kl ek
      · rename_i c
        obtain ⟨j, hj⟩ : ∃ j, j = (i - 1) / 2 := ⟨_, rfl⟩
        rw [← hj] at c ⊢
        have jl : j < h.length := by omega
        have c2 : cmpI (nth h j) (nth h i) ≤ 0 := by have := cmpI_anti (nth h i) (nth h j); omega
        have mi := may_nth m hi
        have mj := may_nth m jl
        refine ih j (by omega) _ (may_perm (perm_swp hi jl) m) (by rw [swp_len]; exact jl) ?_ ?_
        · intro k k0 kl kj
          rw [swp_len] at kl
          rw [nth_swp hi jl, nth_swp hi jl, if_neg kj]
          by_cases ki : k = i
          · subst ki
            rw [if_pos rfl, if_pos hj.symm]
            exact c2
          · rw [if_neg ki]
            have b := h1 k k0 kl ki
            by_cases qj : (k - 1) / 2 = j
            · rw [if_pos qj]
              rw [qj] at b
              exact cmpI_trans mj mi (may_nth m kl) b c2
            · rw [if_neg qj]
              by_cases qi : (k - 1) / 2 = i
              · rw [if_pos qi]
                have := h2 k k0 kl qi (by omega)
                rw [← hj] at this
                exact this
              · rw [if_neg qi]; exact b
        · intro k k0 kl kp j0
          rw [swp_len] at kl
          rw [nth_swp hi jl, nth_swp hi jl, if_neg (show k ≠ j by omega), if_neg (show (j - 1) / 2 ≠ j by omega), if_neg (show (j - 1) / 2 ≠ i by omega)]
          have bj := h1 j j0 jl (by omega)
          by_cases ki : k = i
          · rw [if_pos ki]; exact bj
          · rw [if_neg ki]
            have b := h1 k k0 kl ki
            rw [kp] at b
            exact cmpI_trans mj (may_nth m (by omega)) (may_nth m kl) b bj
/-- Sunk, where all else is in order: a heap. -/
theorem sinkL_heap : ∀ (n : Nat) (h : List It) (i : Nat), h.length - i ≤ n → May h → i < h.length → (∀ k, 0 < k → k < h.length → (k - 1) / 2 ≠ i → cmpI (nth h k) (nth h ((k - 1) / 2)) ≤ 0) → (∀ k, 0 < k → k < h.length → (k - 1) / 2 = i → 0 < i → cmpI (nth h k) (nth h ((i - 1) / 2)) ≤ 0) → HeapP (sinkL h i) := by
  intro n
  induction n with
  | zero => intro h i hn m hi; omega
  | succ n ih =>
    intro h i hn m hi h1 h2
    unfold sinkL
    split
    · rename_i c
      intro k k0 kl
      exact h1 k k0 kl (by omega)
    · rename_i c
      obtain ⟨k1, k2, k3⟩ := kid_lt c
      have top := fun k hk h0 hp => kid_top (k := k) m c hk h0 hp
      generalize kid h i = d at *
      split
      · rename_i q
        intro k k0 kl
        by_cases e : (k - 1) / 2 = i
        · rw [e]
          have a := top k kl k0 e
          have b : cmpI (nth h d) (nth h i) ≤ 0 := by have := cmpI_anti (nth h i) (nth h d); omega
          exact cmpI_trans (may_nth m k1) (may_nth m hi) (may_nth m kl) a b
        · exact h1 k k0 kl e
      · rename_i q
        have c2 : cmpI (nth h i) (nth h d) ≤ 0 := by omega
        refine ih _ d (by rw [swp_len]; omega) (may_perm (perm_swp hi k1) m) (by rw [swp_len]; exact k1) ?_ ?_
        · intro k k0 kl kd
          rw [swp_len] at kl
          rw [nth_swp hi k1, nth_swp hi k1, if_neg kd]
          by_cases e : (k - 1) / 2 = i
          · rw [if_pos e]
            by_cases ed : k = d
            · rw [if_pos ed]; exact c2
            · rw [if_neg ed, if_neg (show k ≠ i by omega)]
              exact top k kl k0 e
          · rw [if_neg e]
            have b := h1 k k0 kl e
            rw [if_neg (show k ≠ d by rintro rfl; exact e k3)]
            by_cases ki : k = i
            · rw [if_pos ki]
              have := h2 d (by omega) k1 k3 (by omega)
              rw [ki]
              exact this
            · rw [if_neg ki]; exact b
        · intro k k0 kl kp d0
          rw [swp_len] at kl
          rw [nth_swp hi k1, nth_swp hi k1, k3, if_neg (show k ≠ d by omega), if_neg (show k ≠ i by omega), if_neg (show i ≠ d by omega), if_pos rfl]
          have b := h1 k k0 kl (by omega)
          rw [kp] at b
          exact b
/-- Each stands no farther behind than the one on top. -/
theorem HeapP.top {h : List It} (hp : HeapP h) (m : May h) : ∀ k, k < h.length → cmpI (nth h k) (nth h 0) ≤ 0 := by
  intro k
  induction k using Nat.strongRecOn with
  | _ k ih =>
    intro hk
    by_cases e : k = 0
    · subst e; rw [cmpI_self]; exact Int.le_refl _
    · have a := hp k (by omega) hk
      have b := ih ((k - 1) / 2) (by omega) (by omega)
      exact cmpI_trans (may_nth m (by omega)) (may_nth m (by omega)) (may_nth m hk) a b
/-- What is put behind all, lifted. -/
def pushL (h : List It) (x : It) : List It := liftL (h ++ [x]) h.length
/-- The others, where the first one is gone. -/
def popL (h : List It) : List It := if h.length ≤ 1 then [] else sinkL ((h.take (h.length - 1)).set 0 (nth h (h.length - 1))) 0
/-- What is put into a place. -/
def putL (h : List It) (i : Nat) (x : It) : List It := if 0 < i ∧ 0 < cmpI x (nth h ((i - 1) / 2)) then liftL (h.set i x) i else sinkL (h.set i x) i
theorem nth_app {h : List It} {x : It} {k : Nat} (hk : k < h.length) : nth (h ++ [x]) k = nth h k := nth_left _ hk
theorem pushL_perm (h : List It) (x : It) : (pushL h x).Perm (h ++ [x]) := liftL_perm _ _ (by simp)
theorem pushL_heap {h : List It} {x : It} (hp : HeapP h) (m : May h) (hx : 0 < x.w) : HeapP (pushL h x) := by
  refine liftL_heap _ _ (m.app (fun y hy => by rw [List.mem_singleton] at hy; exact hy ▸ hx)) (by simp) ?_ ?_
  · intro k k0 kl ke
    rw [List.length_append, List.length_singleton] at kl
    rw [nth_app (by omega), nth_app (by omega)]
    exact hp k k0 (by omega)
  · intro k k0 kl kp h0
    rw [List.length_append, List.length_singleton] at kl
    omega
theorem nth_set {h : List It} {i k : Nat} {x : It} (hi : i < h.length) : nth (h.set i x) k = if k = i then x else nth h k := by
  by_cases e : k = i
  · subst e
    rw [if_pos rfl]
    exact nth_some (by simp [hi])
  · rw [if_neg e]
    unfold nth
    rw [List.getD_eq_getElem?_getD, List.getD_eq_getElem?_getD, List.getElem?_set_ne (Ne.symm e)]
theorem may_set {h : List It} (m : May h) {x : It} (hx : 0 < x.w) (i : Nat) : May (h.set i x) := fun y hy => (List.mem_or_eq_of_mem_set hy).elim (m y) (fun e => e ▸ hx)
theorem putL_heap {h : List It} {x : It} {i : Nat} (hp : HeapP h) (m : May h) (hx : 0 < x.w) (hi : i < h.length) : HeapP (putL h i x) := by
  have ms := may_set m hx i
  have ml : ∀ k, k < h.length → 0 < (nth h k).w := fun k hk => may_nth m hk
  unfold putL
  split
  · rename_i q
    have up : cmpI (nth h ((i - 1) / 2)) x ≤ 0 := by have := cmpI_anti x (nth h ((i - 1) / 2)); omega
    refine liftL_heap _ _ ms (by simpa using hi) ?_ ?_
    · intro k k0 kl ke
      rw [List.length_set] at kl
      rw [nth_set hi, nth_set hi, if_neg ke]
      have b := hp k k0 kl
      by_cases e : (k - 1) / 2 = i
      · rw [if_pos e]
        rw [e] at b
        have c := hp i q.1 hi
        have d := cmpI_trans (ml i hi) (ml _ (by omega)) (ml k kl) b c
        exact cmpI_trans (ml _ (by omega)) hx (ml k kl) d up
      · rw [if_neg e]; exact b
    · intro k k0 kl kp h0
      rw [List.length_set] at kl
      rw [nth_set hi, nth_set hi, if_neg (show k ≠ i by omega), if_neg (show (i - 1) / 2 ≠ i by omega)]
      have b := hp k k0 kl
      rw [kp] at b
      exact cmpI_trans (ml i hi) (ml _ (by omega)) (ml k kl) b (hp i q.1 hi)
  · rename_i q
    refine sinkL_heap _ _ _ (Nat.le_refl _) ms (by simpa using hi) ?_ ?_
    · intro k k0 kl ke
      rw [List.length_set] at kl
      rw [nth_set hi, nth_set hi, if_neg ke]
      by_cases e : k = i
      · rw [if_pos e]
        subst e
        have : ¬ 0 < cmpI x (nth h ((k - 1) / 2)) := fun z => q ⟨k0, z⟩
        omega
      · rw [if_neg e]; exact hp k k0 kl
    · intro k k0 kl kp h0
      rw [List.length_set] at kl
      rw [nth_set hi, nth_set hi, if_neg (show k ≠ i by omega), if_neg (show (i - 1) / 2 ≠ i by omega)]
      have b := hp k k0 kl
      rw [kp] at b
      exact cmpI_trans (ml i hi) (ml _ (by omega)) (ml k kl) b (hp i h0 hi)
theorem popL_heap {h : List It} (hp : HeapP h) (m : May h) : HeapP (popL h) := by
  unfold popL
  split
  · intro k _ kl; exact absurd kl (by simp)
  · rename_i c
    have tl : (h.take (h.length - 1)).length = h.length - 1 := by rw [List.length_take]; omega
    have mt : May (h.take (h.length - 1)) := fun y hy => m y (List.mem_of_mem_take hy)
    have nt : ∀ k, k < h.length - 1 → nth (h.take (h.length - 1)) k = nth h k := by
      intro k hk
      rw [nth_eq (by omega), nth_eq (by omega), List.getElem_take]
    refine sinkL_heap _ _ _ (Nat.le_refl _) (may_set mt (may_nth m (by omega)) 0) (by rw [List.length_set]; omega) ?_ ?_
    · intro k k0 kl ke
      rw [List.length_set] at kl
      rw [nth_set (by omega), nth_set (by omega), if_neg (by omega), if_neg ke, nt _ (by omega), nt _ (by omega)]
      exact hp k k0 (by omega)
    · intro k _ _ _ h0; omega
/-- None is lost. -/
theorem popL_perm {h : List It} (h0 : 0 < h.length) : (nth h 0 :: popL h).Perm h := by
  match h, h0 with
  | [a], _ =>
    rw [show nth [a] 0 = a from nth_some rfl, show popL [a] = [] by unfold popL; rw [if_pos (by simp)]]
  | a :: b :: t, _ =>
    obtain ⟨mid, z, e⟩ : ∃ mid z, b :: t = mid ++ [z] := ⟨_, _, (List.dropLast_concat_getLast (by simp)).symm⟩
    rw [e]
    unfold popL
    rw [if_neg (by simp)]
    have n0 : nth (a :: (mid ++ [z])) 0 = a := nth_some rfl
    have nz : nth (a :: (mid ++ [z])) ((a :: (mid ++ [z])).length - 1) = z := nth_some (by simp)
    have tk : (a :: (mid ++ [z])).take ((a :: (mid ++ [z])).length - 1) = a :: mid := by simp
    rw [n0, nz, tk, List.set_cons_zero]
    exact (List.Perm.cons a ((sinkL_perm _ _ _ (Nat.le_refl _) (by simp)).trans (List.perm_append_comm (l₁ := [z])).symm.symm))
theorem putL_perm {h : List It} {x : It} {i : Nat} (hi : i < h.length) : (putL h i x).Perm (h.set i x) := by
  unfold putL
  split
  · exact liftL_perm _ _ (by simpa using hi)
  · exact sinkL_perm _ _ _ (Nat.le_refl _) (by simpa using hi)
/-- An item that is put in its own place leaves all as it was. -/
theorem putL_self {h : List It} {i : Nat} (hp : HeapP h) (m : May h) (hi : i < h.length) : putL h i (nth h i) = h := by
  have e : h.set i (nth h i) = h := by rw [nth_eq hi]; exact List.set_getElem_self hi
  unfold putL
  rw [e]
  rw [if_neg (by rintro ⟨a, b⟩; have := hp i a hi; omega)]
  unfold sinkL
  split
  · rfl
  · rename_i c
    obtain ⟨k1, k2, k3⟩ := kid_lt c
    rw [if_pos]
    have := hp (kid h i) (by omega) k1
    rw [k3] at this
    have := cmpI_anti (nth h i) (nth h (kid h i))
    omega
end Go.Proofs.Ytnkhgkpijfohkaa
