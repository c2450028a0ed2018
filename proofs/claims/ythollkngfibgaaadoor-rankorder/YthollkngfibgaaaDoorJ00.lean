/- Plain arithmetic of limbs of 32 bits: no program in sight. Plain arithmetic: the order of numbers by their limbs; naturals. Plain: items, who stands ahead; that goes through; lists in order, those that are equal in the order in which they came: there is one alone. Limbs in memory: what a slice of limbs reads as, and what stays. A slice reads as items; it, whatever a call makes of its own. Plain arithmetic of numbers of 128 bits as two words: no program in sight. The walks of package wide: Of, Full, compare, Cmp, Add, Sub. The walk of wide.Mul. Numbers that lie in blocks of the call's own. -/
import Derived.Laws.Strings2
import Derived.Test.YthollkngfibgaaaDoorRows
import Derived.WalkKit
import Derived.WalkSpells
import Derived.Lib.Hide
import Derived.Handy
import Derived.Deep.Draws
import Derived.Deep.QuietTactic
import Derived.BigQuiet
import Derived.Deep.RegionHeld3
import Derived.Deep.LoopGhost
import Derived.Deep.Light
import Derived.Deep.CutBlock
import Derived.Deep.DeepCutAuto
import Derived.Deep.RegionWith
import Derived.StillTailTactics
import Derived.IntWalk
import Derived.Test.YthollkngfibgaaaDoorShelf
import Derived.Laws.Externs
import Derived.Shelf.Spec.BitsCarry
import Derived.Deep.DeepFit
import Derived.ProofKit
import Derived.OpenShut
import Derived.Lib.SmallJoins
namespace Go.Proofs.YthollkngfibgaaaDoor

/-- One more than the greatest limb. -/
@[irreducible] def B : Nat := 4294967296
theorem B_eq : B = 4294967296 := by unfold B; rfl
theorem B_pos : 0 < B := by rw [B_eq]; decide

/-- The number of limbs, the lowest first. -/
def val : List Nat → Nat
  | [] => 0
  | x :: r => x + B * val r
theorem val_nil : val [] = 0 := rfl
theorem val_cons (x : Nat) (r : List Nat) : val (x :: r) = x + B * val r := rfl

/-- Limbs are below B. -/
def Lo (xs : List Nat) : Prop := ∀ x ∈ xs, x < 4294967296
theorem Lo.nil : Lo [] := fun x hx => by cases hx
theorem Lo.cons {x : Nat} {r : List Nat} (h : x < 4294967296) (k : Lo r) : Lo (x :: r) := fun y hy => by
  rcases List.mem_cons.1 hy with rfl | hy
  · exact h
  · exact k y hy
theorem Lo.head {x : Nat} {r : List Nat} (h : Lo (x :: r)) : x < 4294967296 := h x (by simp)
theorem Lo.tail {x : Nat} {r : List Nat} (h : Lo (x :: r)) : Lo r := fun y hy => h y (by simp [hy])
theorem Lo.append {xs ys : List Nat} (h : Lo xs) (k : Lo ys) : Lo (xs ++ ys) := fun y hy => by
  rcases List.mem_append.1 hy with hy | hy
  · exact h y hy
  · exact k y hy
theorem Lo.take {xs : List Nat} (h : Lo xs) (k : Nat) : Lo (xs.take k) := fun y hy => h y (List.mem_of_mem_take hy)
theorem Lo.drop {xs : List Nat} (h : Lo xs) (k : Nat) : Lo (xs.drop k) := fun y hy => h y (List.mem_of_mem_drop hy)
theorem Lo.at_ {xs : List Nat} (h : Lo xs) (k : Nat) (hk : k < xs.length) : xs[k] < 4294967296 := h _ (List.getElem_mem hk)

theorem val_append (xs ys : List Nat) : val (xs ++ ys) = val xs + B ^ xs.length * val ys := by
  induction xs with
  | nil => simp [val_nil]
  | cons x r ih => rw [List.cons_append, val_cons, val_cons, ih, List.length_cons, Nat.pow_succ, Nat.mul_add, Nat.add_assoc, Nat.mul_comm (B ^ r.length) B, Nat.mul_assoc]
theorem val_snoc (xs : List Nat) (y : Nat) : val (xs ++ [y]) = val xs + B ^ xs.length * y := by
  rw [val_append]; simp [val_cons, val_nil]
theorem take_snoc (xs : List Nat) (k : Nat) (h : k < xs.length) : xs.take (k + 1) = xs.take k ++ [xs[k]] := List.take_succ_eq_append_getElem h
theorem val_take_succ (xs : List Nat) (k : Nat) (h : k < xs.length) : val (xs.take (k + 1)) = val (xs.take k) + B ^ k * xs[k] := by
  rw [take_snoc xs k h, val_snoc, List.length_take, Nat.min_eq_left (by omega)]
theorem val_split (xs : List Nat) (k : Nat) (h : k ≤ xs.length) : val xs = val (xs.take k) + B ^ k * val (xs.drop k) := by
  conv => lhs; rw [← List.take_append_drop k xs]
  rw [val_append, List.length_take, Nat.min_eq_left h]
theorem val_drop (xs : List Nat) (k : Nat) (h : k < xs.length) : val (xs.drop k) = xs[k] + B * val (xs.drop (k + 1)) := by
  rw [List.drop_eq_getElem_cons h, val_cons]
theorem val_lt {xs : List Nat} (h : Lo xs) : val xs < B ^ xs.length := by
  induction xs with
  | nil => simp [val_nil]
  | cons x r ih =>
    have i := ih h.tail
    have e : B ^ (x :: r).length = B * B ^ r.length := by rw [List.length_cons, Nat.pow_succ, Nat.mul_comm]
    have hx := h.head
    rw [← B_eq] at hx
    rw [val_cons, e]
    have : B * (val r + 1) ≤ B * B ^ r.length := Nat.mul_le_mul_left _ i
    rw [Nat.mul_add] at this
    omega
theorem val_zeros (n : Nat) : val (List.replicate n 0) = 0 := by
  induction n with
  | zero => rfl
  | succ n ih => rw [List.replicate_succ, val_cons, ih, Nat.mul_zero]
theorem val_append_zeros (xs : List Nat) (n : Nat) : val (xs ++ List.replicate n 0) = val xs := by rw [val_append, val_zeros, Nat.mul_zero, Nat.add_zero]

/-- The limbs of a number. -/
def limbs (n : Nat) : List Nat := if h : n = 0 then [] else n % 4294967296 :: limbs (n / 4294967296)
termination_by n
decreasing_by exact Nat.div_lt_self (Nat.pos_of_ne_zero h) (by decide)
theorem limbs_zero : limbs 0 = [] := by rw [limbs]; rfl
theorem limbs_pos {n : Nat} (h : n ≠ 0) : limbs n = n % 4294967296 :: limbs (n / 4294967296) := by rw [limbs, dif_neg h]
theorem lo_limbs (n : Nat) : Lo (limbs n) := by
  induction n using Nat.strongRecOn with
  | _ n ih =>
    by_cases h : n = 0
    · rw [h, limbs_zero]; exact .nil
    · rw [limbs_pos h]
      exact .cons (Nat.mod_lt _ (by decide)) (ih _ (Nat.div_lt_self (Nat.pos_of_ne_zero h) (by decide)))
theorem val_limbs (n : Nat) : val (limbs n) = n := by
  induction n using Nat.strongRecOn with
  | _ n ih =>
    by_cases h : n = 0
    · rw [h, limbs_zero]; rfl
    · rw [limbs_pos h, val_cons, ih _ (Nat.div_lt_self (Nat.pos_of_ne_zero h) (by decide)), B_eq]
      omega
theorem limbs_inj {a b : Nat} (h : limbs a = limbs b) : a = b := by rw [← val_limbs a, ← val_limbs b, h]
theorem limbs_add_mul {x n : Nat} (hx : x < 4294967296) (h : n ≠ 0) : limbs (x + 4294967296 * n) = x :: limbs n := by
  rw [limbs_pos (by omega)]
  have e1 : (x + 4294967296 * n) % 4294967296 = x := by omega
  have e2 : (x + 4294967296 * n) / 4294967296 = n := by omega
  rw [e1, e2]
theorem limbs_one {x : Nat} (hx : x < 4294967296) (h : x ≠ 0) : limbs x = [x] := by
  rw [limbs_pos h]
  have e1 : x % 4294967296 = x := by omega
  have e2 : x / 4294967296 = 0 := by omega
  rw [e1, e2, limbs_zero]
/-- Limbs of which the last one is not 0 are those of their number. -/
theorem limbs_val {xs : List Nat} (h : Lo xs) (k : ∀ hn : xs ≠ [], xs.getLast hn ≠ 0) : limbs (val xs) = xs := by
  induction xs with
  | nil => rw [val_nil, limbs_zero]
  | cons x r ih =>
    rw [val_cons, B_eq]
    by_cases hr : r = []
    · subst hr
      have := k (by simp)
      simp at this
      rw [val_nil, Nat.mul_zero, Nat.add_zero]
      exact limbs_one h.head this
    · have k' : ∀ hn : r ≠ [], r.getLast hn ≠ 0 := fun hn => by
        have := k (by simp)
        rwa [List.getLast_cons hn] at this
      have i := ih h.tail k'
      have nz : val r ≠ 0 := by
        intro e
        rw [e, limbs_zero] at i
        exact hr i.symm
      rw [limbs_add_mul h.head nz, i]
theorem limbs_last (n : Nat) (hn : limbs n ≠ []) : (limbs n).getLast hn ≠ 0 := by
  induction n using Nat.strongRecOn with
  | _ n ih =>
    by_cases h : n = 0
    · subst h; exact absurd limbs_zero hn
    · have e := limbs_pos h
      have : (limbs n).getLast hn = (n % 4294967296 :: limbs (n / 4294967296)).getLast (by simp) := by simp only [e]
      rw [this]
      by_cases h2 : n / 4294967296 = 0
      · have e3 : limbs (n / 4294967296) = [] := by rw [h2, limbs_zero]
        simp only [e3, List.getLast_singleton]
        omega
      · have hne : limbs (n / 4294967296) ≠ [] := by rw [limbs_pos h2]; simp
        rw [List.getLast_cons hne]
        exact ih _ (Nat.div_lt_self (Nat.pos_of_ne_zero h) (by decide)) hne
/-- Noughts at the high end count for nothing. -/
theorem limbs_snoc_zero {xs : List Nat} : limbs (val (xs ++ [0])) = limbs (val xs) := by rw [val_snoc, Nat.mul_zero, Nat.add_zero]

/-- How many limbs. -/
def ln (n : Nat) : Nat := (limbs n).length
theorem ln_zero : ln 0 = 0 := by unfold ln; rw [limbs_zero]; rfl
theorem ln_eq_zero {n : Nat} (h : ln n = 0) : n = 0 := by
  unfold ln at h
  have := List.eq_nil_of_length_eq_zero h
  rw [← val_limbs n, this, val_nil]
theorem ln_pos {n : Nat} (h : n ≠ 0) : 0 < ln n := by
  rcases Nat.eq_zero_or_pos (ln n) with k | k
  · exact absurd (ln_eq_zero k) h
  · exact k
theorem ln_succ {n : Nat} (h : n ≠ 0) : ln n = ln (n / 4294967296) + 1 := by unfold ln; rw [limbs_pos h]; rfl
theorem lt_ln (n : Nat) : n < B ^ ln n := by
  have := val_lt (lo_limbs n)
  rwa [val_limbs] at this
theorem ln_le {n k : Nat} (h : n < B ^ k) : ln n ≤ k := by
  induction k generalizing n with
  | zero =>
    have : n = 0 := by simpa using h
    rw [this, ln_zero]; omega
  | succ k ih =>
    by_cases hz : n = 0
    · rw [hz, ln_zero]; omega
    · rw [ln_succ hz]
      have : n / 4294967296 < B ^ k := by
        rw [Nat.pow_succ, B_eq] at h
        rw [B_eq]
        exact Nat.div_lt_of_lt_mul (by rwa [Nat.mul_comm])
      have := ih this
      omega
theorem le_of_ln {n : Nat} (h : n ≠ 0) : B ^ (ln n - 1) ≤ n := by
  apply Decidable.byContradiction
  intro k
  have := ln_le (show n < B ^ (ln n - 1) by omega)
  have := ln_pos h
  omega
theorem ln_mono {a b : Nat} (h : a ≤ b) : ln a ≤ ln b := ln_le (Nat.lt_of_le_of_lt h (lt_ln b))
theorem ln_val {xs : List Nat} (h : Lo xs) : ln (val xs) ≤ xs.length := ln_le (val_lt h)
theorem limbs_length (n : Nat) : (limbs n).length = ln n := rfl
theorem last_ne_zero {a k : Nat} (hk : k + 1 = (limbs a).length) : (limbs a)[k]'(by omega) ≠ 0 := by
  have hn : limbs a ≠ [] := by intro e; rw [e] at hk; simp at hk
  have := limbs_last a hn
  rw [List.getLast_eq_getElem] at this
  have e : (limbs a).length - 1 = k := by omega
  simpa only [e] using this
theorem val_take_limbs_lt (a k : Nat) : val ((limbs a).take k) < B ^ k := by
  have := val_lt ((lo_limbs a).take k)
  refine Nat.lt_of_lt_of_le this (Nat.pow_le_pow_right B_pos (by simp; omega))
end Go.Proofs.YthollkngfibgaaaDoor
namespace Go.Proofs.YthollkngfibgaaaDoor
/-- Are limbs a natural's? -/
def Nt (xs : List Nat) : Prop := xs.length ≤ 64 ∧ ∀ hn : xs ≠ [], xs.getLast hn ≠ 0
theorem Nt.eq {xs : List Nat} (h : Nt xs) (k : Lo xs) : xs = limbs (val xs) := (limbs_val k h.2).symm
theorem Nt.of {a : Nat} (h : ln a ≤ 64) : Nt (limbs a) := ⟨h, fun hn => limbs_last a hn⟩
theorem pred_succ_of_pos {n : Nat} (h : 0 < n) : n - 1 + 1 = n := by omega
theorem Nt.no {xs : List Nat} (h : ¬ Nt xs) (k : xs.length ≤ 64) : ∃ j, j + 1 = xs.length ∧ xs[j]? = some 0 := by
  by_cases hn : xs = []
  · exact absurd ⟨k, fun x => absurd hn x⟩ h
  · have hl : 0 < xs.length := List.length_pos_iff.2 hn
    refine ⟨xs.length - 1, pred_succ_of_pos hl, ?_⟩
    by_cases z : xs.getLast hn = 0
    · rw [List.getLast_eq_getElem] at z
      rw [List.getElem?_eq_getElem (Nat.sub_lt hl Nat.one_pos), z]
    · exact absurd ⟨k, fun _ => z⟩ h
/-- -1, 0 or 1. -/
@[irreducible] def sgn (a b : Nat) : Int := if a < b then -1 else if b < a then 1 else 0
theorem sgn_lt {a b : Nat} (h : a < b) : sgn a b = -1 := by unfold sgn; rw [if_pos h]
theorem sgn_gt {a b : Nat} (h : b < a) : sgn a b = 1 := by unfold sgn; rw [if_neg (by omega), if_pos h]
theorem sgn_eq (a : Nat) : sgn a a = 0 := by unfold sgn; rw [if_neg (by omega), if_neg (by omega)]
theorem sgn_congr {a b c d : Nat} (h : a < b ↔ c < d) (k : b < a ↔ d < c) : sgn a b = sgn c d := by
  unfold sgn
  by_cases p : a < b
  · rw [if_pos p, if_pos (h.1 p)]
  · rw [if_neg p, if_neg (fun x => p (h.2 x))]
    by_cases q : b < a
    · rw [if_pos q, if_pos (k.1 q)]
    · rw [if_neg q, if_neg (fun x => q (k.2 x))]
theorem lt_of_ln_lt {a b : Nat} (h : ln a < ln b) : a < b := by
  apply Decidable.byContradiction
  intro k
  have := ln_mono (show b ≤ a by omega)
  omega
theorem sgn_ln {a b : Nat} (h : ln a ≠ ln b) : sgn (ln a) (ln b) = sgn a b := by
  rcases Nat.lt_or_gt_of_ne h with k | k
  · rw [sgn_lt k, sgn_lt (lt_of_ln_lt k)]
  · rw [sgn_gt k, sgn_gt (lt_of_ln_lt k)]
theorem lt_of_top {P x y s t r : Nat} (hs : s < P) (h : x < y) : s + P * (x + B * r) < t + P * (y + B * r) := by
  have : P * (x + B * r) + P ≤ P * (y + B * r) := by
    rw [← Nat.mul_succ]
    exact Nat.mul_le_mul_left _ (by omega)
  omega
theorem sgn_top {a b k : Nat} (ha : k < (limbs a).length) (hb : k < (limbs b).length) (he : (limbs a).drop (k + 1) = (limbs b).drop (k + 1)) (hne : (limbs a)[k] ≠ (limbs b)[k]) :
    sgn (limbs a)[k] (limbs b)[k] = sgn a b := by
  have ea := val_split (limbs a) k (by omega)
  have eb := val_split (limbs b) k (by omega)
  rw [val_limbs, val_drop _ k ha] at ea
  rw [val_limbs, val_drop _ k hb, ← he] at eb
  have la := val_take_limbs_lt a k
  have lb := val_take_limbs_lt b k
  rcases Nat.lt_or_gt_of_ne hne with h | h
  · rw [sgn_lt h, sgn_lt]
    rw [ea, eb]
    exact lt_of_top la h
  · rw [sgn_gt h, sgn_gt]
    rw [ea, eb]
    exact lt_of_top lb h
theorem drop_step {xs ys : List Nat} {k : Nat} (hx : k < xs.length) (hy : k < ys.length) (h : xs[k] = ys[k]) (he : xs.drop (k + 1) = ys.drop (k + 1)) : xs.drop k = ys.drop k := by
  rw [List.drop_eq_getElem_cons hx, List.drop_eq_getElem_cons hy, h, he]
end Go.Proofs.YthollkngfibgaaaDoor
namespace Go.Proofs.YthollkngfibgaaaDoor

/-- An item. -/
structure It where
  k : ByteArray
  u : Nat
  w : Nat
abbrev itv (x : It) : Value := .agg #[.string x.k, .int .u64 (x.u : Int), .int .u64 (x.w : Int)]
/-- It reads as numbers of 64 bits. -/
structure It.Fit (x : It) : Prop where
  u : x.u < 18446744073709551616
  w : x.w < 18446744073709551616
theorem itv_inj {x y : It} (h : itv x = itv y) : x = y := by
  cases x; cases y
  simp only [itv, Value.agg.injEq, Array.mk.injEq, List.cons.injEq, Value.string.injEq, Value.int.injEq, true_and, and_true] at h
  obtain ⟨a, b, c⟩ := h
  have b := Int.ofNat.inj b
  have c := Int.ofNat.inj c
  subst a b c
  rfl

theorem bl_irr : ∀ x : List UInt8, Op.bytesLess x x = false
  | [] => rfl
  | a :: x => by
    rw [Op.bytesLess, bl_irr x]
    have : ¬ a < a := by rw [UInt8.lt_iff_toNat_lt]; omega
    simp [this]
theorem bl_asym : ∀ {x y : List UInt8}, Op.bytesLess x y = true → Op.bytesLess y x = false
  | [], [], h => by simp [Op.bytesLess] at h
  | [], _ :: _, _ => rfl
  | _ :: _, [], h => by simp [Op.bytesLess] at h
  | a :: x, b :: y, h => by
    rw [Op.bytesLess, Bool.or_eq_true, Bool.and_eq_true, decide_eq_true_eq, beq_iff_eq] at h
    have : ¬ (Op.bytesLess (b :: y) (a :: x) = true) := by
      rw [Op.bytesLess, Bool.or_eq_true, Bool.and_eq_true, decide_eq_true_eq, beq_iff_eq]
      rw [UInt8.lt_iff_toNat_lt] at *
      rintro (k | ⟨rfl, k⟩)
      · rcases h with h | ⟨rfl, h⟩ <;> omega
      · rcases h with h | ⟨_, h⟩
        · omega
        · rw [bl_asym h] at k; exact absurd k (by decide)
    simpa using this
theorem bl_trans : ∀ {x y z : List UInt8}, Op.bytesLess x y = true → Op.bytesLess y z = true → Op.bytesLess x z = true
  | _, [], _, h, _ => by cases ‹List UInt8› <;> simp [Op.bytesLess] at h
  | _, _ :: _, [], _, h => by simp [Op.bytesLess] at h
  | [], _ :: _, _ :: _, _, _ => rfl
  | a :: x, b :: y, c :: z, h, k => by
    rw [Op.bytesLess, Bool.or_eq_true, Bool.and_eq_true, decide_eq_true_eq, beq_iff_eq] at *
    rw [UInt8.lt_iff_toNat_lt] at *
    rcases h with h | ⟨rfl, h⟩
    · rcases k with k | ⟨rfl, k⟩ <;> exact .inl (by omega)
    · rcases k with k | ⟨rfl, k⟩
      · exact .inl k
      · exact .inr ⟨rfl, bl_trans h k⟩
theorem bl_eq : ∀ {x y : List UInt8}, Op.bytesLess x y = false → Op.bytesLess y x = false → x = y
  | [], [], _, _ => rfl
  | [], _ :: _, h, _ => by simp [Op.bytesLess] at h
  | _ :: _, [], _, h => by simp [Op.bytesLess] at h
  | a :: x, b :: y, h, k => by
    rw [Op.bytesLess, Bool.or_eq_false_iff, decide_eq_false_iff_not, UInt8.lt_iff_toNat_lt] at h k
    obtain rfl : a = b := UInt8.toNat_inj.1 (by omega)
    simp only [BEq.rfl, Bool.true_and] at h k
    rw [bl_eq h.2 k.2]

/-- Which of two keys is less. -/
@[irreducible] def ksg (a b : ByteArray) : Int := if Op.bytesLess a.toList b.toList = true then -1 else if Op.bytesLess b.toList a.toList = true then 1 else 0
theorem text_eq {a b : ByteArray} (h : a.toList = b.toList) : a = b := by
  rw [ByteArray.toList_eq, ByteArray.toList_eq] at h
  cases a; cases b
  simp only [ByteArray.mk.injEq]
  exact Array.toList_inj.1 h
theorem ksg_anti (a b : ByteArray) : ksg b a = - ksg a b := by
  unfold ksg
  cases h : Op.bytesLess a.toList b.toList
  · cases k : Op.bytesLess b.toList a.toList <;> simp
  · rw [bl_asym h]; simp
theorem ksg_zero {a b : ByteArray} : ksg a b = 0 ↔ a = b := by
  unfold ksg
  constructor
  · intro h
    cases k : Op.bytesLess a.toList b.toList <;> cases l : Op.bytesLess b.toList a.toList <;> rw [k, l] at h <;> simp at h
    exact text_eq (bl_eq k l)
  · rintro rfl
    rw [bl_irr]; simp
theorem ksg_le {a b : ByteArray} : ksg a b ≤ 0 ↔ Op.bytesLess b.toList a.toList = false := by
  unfold ksg
  cases k : Op.bytesLess a.toList b.toList
  · cases l : Op.bytesLess b.toList a.toList <;> simp
  · rw [bl_asym k]; simp
theorem ksg_trans {a b c : ByteArray} (h : ksg a b ≤ 0) (k : ksg b c ≤ 0) : ksg a c ≤ 0 := by
  rw [ksg_le] at *
  cases l : Op.bytesLess c.toList a.toList
  · rfl
  · exfalso
    cases m : Op.bytesLess a.toList b.toList
    · have := text_eq (bl_eq m h)
      subst this
      rw [k] at l; exact absurd l (by decide)
    · rw [bl_trans l m] at k; exact absurd k (by decide)
theorem ksg_cases (a b : ByteArray) : ksg a b = -1 ∨ ksg a b = 0 ∨ ksg a b = 1 := by
  unfold ksg; (repeat' split) <;> simp

theorem sgn_le {a b : Nat} : sgn a b ≤ 0 ↔ a ≤ b := by
  unfold sgn; (repeat' split) <;> omega
theorem sgn_zero {a b : Nat} : sgn a b = 0 ↔ a = b := by
  unfold sgn; (repeat' split) <;> omega
theorem sgn_anti (a b : Nat) : sgn b a = - sgn a b := by
  unfold sgn; (repeat' split) <;> omega
theorem sgn_cases (a b : Nat) : sgn a b = -1 ∨ sgn a b = 0 ∨ sgn a b = 1 := by
  unfold sgn; (repeat' split) <;> simp

/-- Who stands ahead. -/
@[irreducible] def cmpI (a b : It) : Int := if sgn (a.u * b.w) (b.u * a.w) = 0 then ksg a.k b.k else sgn (a.u * b.w) (b.u * a.w)
theorem cmpI_zero {a b : It} : cmpI a b = 0 ↔ a.u * b.w = b.u * a.w ∧ a.k = b.k := by
  unfold cmpI
  split
  · rename_i h; rw [ksg_zero]; rw [sgn_zero] at h; exact ⟨fun k => ⟨h, k⟩, fun k => k.2⟩
  · rename_i h; exact ⟨fun k => absurd k h, fun k => absurd (sgn_zero.2 k.1) h⟩
theorem cmpI_anti (a b : It) : cmpI b a = - cmpI a b := by
  unfold cmpI
  rw [sgn_anti (a.u * b.w) (b.u * a.w), ksg_anti a.k b.k]
  by_cases h : sgn (a.u * b.w) (b.u * a.w) = 0
  · rw [if_pos h, if_pos (by omega)]
  · rw [if_neg h, if_neg (by omega)]
theorem cmpI_self (a : It) : cmpI a a = 0 := cmpI_zero.2 ⟨rfl, rfl⟩
theorem cmpI_cases (a b : It) : cmpI a b = -1 ∨ cmpI a b = 0 ∨ cmpI a b = 1 := by
  unfold cmpI; split
  · exact ksg_cases _ _
  · exact sgn_cases _ _
theorem cmpI_le {a b : It} : cmpI a b ≤ 0 ↔ a.u * b.w < b.u * a.w ∨ (a.u * b.w = b.u * a.w ∧ ksg a.k b.k ≤ 0) := by
  unfold cmpI
  split
  · rename_i h; rw [sgn_zero] at h; omega
  · rename_i h; rw [sgn_le]; rw [sgn_zero] at h; omega
theorem cross {a b c d e f : Nat} (hf : 0 < d) (h : a * d ≤ c * b) (k : c * f ≤ e * d) : a * f ≤ e * b := by
  -- a/b ≤ c/d ≤ e/f
  have h1 : a * d * f ≤ c * b * f := Nat.mul_le_mul_right f h
  have h2 : c * f * b ≤ e * d * b := Nat.mul_le_mul_right b k
  have h3 : (a * f) * d ≤ (e * b) * d := by
    rw [Nat.mul_right_comm a f d, Nat.mul_right_comm e b d]
    refine Nat.le_trans h1 ?_
    rw [Nat.mul_right_comm c b f]
    exact h2
  exact Nat.le_of_mul_le_mul_right h3 hf
/-- Of items that may be the order goes through. -/
theorem cmpI_trans {a b c : It} (hb : 0 < b.w) (hc : 0 < c.w) (ha : 0 < a.w) (h : cmpI a b ≤ 0) (k : cmpI b c ≤ 0) : cmpI a c ≤ 0 := by
  rw [cmpI_le] at *
  have h1 : a.u * b.w ≤ b.u * a.w := by omega
  have k1 : b.u * c.w ≤ c.u * b.w := by omega
  have ac : a.u * c.w ≤ c.u * a.w := cross hb h1 k1
  by_cases e : a.u * c.w = c.u * a.w
  · have ca : c.u * a.w ≤ a.u * c.w := by omega
    have cb : c.u * b.w ≤ b.u * c.w := cross ha ca h1
    have ba : b.u * a.w ≤ a.u * b.w := cross hc k1 ca
    refine .inr ⟨e, ?_⟩
    have h2 : ksg a.k b.k ≤ 0 := by omega
    have k2 : ksg b.k c.k ≤ 0 := by omega
    exact ksg_trans h2 k2
  · exact .inl (by omega)
theorem cmpI_ge {a b : It} (h : ¬ cmpI a b < 0) : cmpI b a ≤ 0 := by rw [cmpI_anti a b]; omega

/-- In order. -/
def Sorted (s : List It) : Prop := s.Pairwise fun a b => cmpI a b ≤ 0
/-- Those that are equal to one. -/
def Cls (z : It) (s : List It) : List It := s.filter fun y => decide (cmpI z y = 0)
theorem Cls_app (z : It) (s t : List It) : Cls z (s ++ t) = Cls z s ++ Cls z t := List.filter_append ..
theorem Cls_nil {z : It} {s : List It} (h : ∀ y ∈ s, cmpI z y ≠ 0) : Cls z s = [] := by
  unfold Cls
  rw [List.filter_eq_nil_iff]
  intro y hy
  simpa using h y hy
theorem Cls_one {z x : It} (h : cmpI z x = 0) : Cls z [x] = [x] := by
  unfold Cls; rw [List.filter_cons_of_pos (by simpa using h)]; rfl
theorem Cls_none {z x : It} (h : cmpI z x ≠ 0) : Cls z [x] = [] := by
  unfold Cls; rw [List.filter_cons_of_neg (by simpa using h)]; rfl
theorem Cls_cons (z x : It) (s : List It) : Cls z (x :: s) = Cls z [x] ++ Cls z s := Cls_app z [x] s
theorem Cls_mem {z x : It} {s : List It} : x ∈ Cls z s ↔ x ∈ s ∧ cmpI z x = 0 := by
  unfold Cls; rw [List.mem_filter, decide_eq_true_eq]
def May (s : List It) : Prop := ∀ y ∈ s, 0 < y.w
theorem sorted_one : ∀ {s t : List It}, Sorted s → Sorted t → May s → May t → (∀ z, 0 < z.w → Cls z s = Cls z t) → s = t
  | [], [], _, _, _, _, _ => rfl
  | [], b :: t, _, _, _, mt, h => by
    have := h b (mt b (.head _))
    rw [Cls_cons, Cls_one (cmpI_self b)] at this
    exact absurd this (by simp [Cls])
  | a :: s, [], _, _, ms, _, h => by
    have := h a (ms a (.head _))
    rw [Cls_cons, Cls_one (cmpI_self a)] at this
    exact absurd this (by simp [Cls])
  | a :: s, b :: t, ss, st, ms, mt, h => by
    have wa := ms a (.head _)
    have wb := mt b (.head _)
    have first : ∀ {x : It} {l : List It}, Sorted (x :: l) → ∀ y ∈ x :: l, cmpI x y ≤ 0 := by
      intro x l hs y hy
      rcases List.mem_cons.1 hy with rfl | hy
      · rw [cmpI_self]; exact Int.le_refl _
      · exact (List.pairwise_cons.1 hs).1 y hy
    have hab : cmpI a b = 0 := by
      obtain ⟨c1, c2⟩ := Cls_mem.1 (show a ∈ Cls a (b :: t) by rw [← h a wa]; exact Cls_mem.2 ⟨.head _, cmpI_self a⟩)
      obtain ⟨d1, d2⟩ := Cls_mem.1 (show b ∈ Cls b (a :: s) by rw [h b wb]; exact Cls_mem.2 ⟨.head _, cmpI_self b⟩)
      have e1 := first st a c1
      have e2 := first ss b d1
      have := cmpI_anti a b
      omega
    have e := h a wa
    rw [Cls_cons a a, Cls_cons a b, Cls_one (cmpI_self a), Cls_one hab] at e
    obtain rfl : a = b := by simpa using congrArg List.head? e
    have rest := sorted_one (List.pairwise_cons.1 ss).2 (List.pairwise_cons.1 st).2 (fun y hy => ms y (.tail _ hy)) (fun y hy => mt y (.tail _ hy)) (fun z hz => by
      have := h z hz
      rw [Cls_cons z a s, Cls_cons z a t] at this
      exact List.append_cancel_left this)
    rw [rest]
/-- The items of l in order; those that are equal, in the order of l. -/
structure IsSort (l s : List It) : Prop where
  sorted : Sorted s
  perm : s.Perm l
  cls : ∀ z, 0 < z.w → Cls z s = Cls z l
theorem IsSort.may {l s : List It} (h : IsSort l s) (m : May l) : May s := fun y hy => m y (h.perm.mem_iff.1 hy)
theorem IsSort.len {l s : List It} (h : IsSort l s) : s.length = l.length := h.perm.length_eq
/-- There is one alone. -/
theorem IsSort.one {l s t : List It} (m : May l) (h : IsSort l s) (k : IsSort l t) : s = t :=
  sorted_one h.sorted k.sorted (h.may m) (k.may m) (fun z hz => (h.cls z hz).trans (k.cls z hz).symm)
theorem isSort_nil : IsSort [] [] := ⟨.nil, .refl _, fun _ _ => rfl⟩
/-- One more, behind all that don't stand behind it. -/
theorem IsSort.put {l s : List It} {x : It} (h : IsSort l s) (m : May l) (hx : 0 < x.w) (n : Nat) (h1 : ∀ y ∈ s.take n, cmpI y x ≤ 0) (h2 : ∀ y ∈ s.drop n, cmpI x y < 0) :
    IsSort (l ++ [x]) (s.take n ++ x :: s.drop n) := by
  have sp : Sorted (s.take n ++ s.drop n) := by rw [List.take_append_drop]; exact h.sorted
  have ms := h.may m
  obtain ⟨p1, p2, p3⟩ := List.pairwise_append.1 sp
  refine ⟨List.pairwise_append.2 ⟨p1, List.pairwise_cons.2 ⟨fun y hy => Int.le_of_lt (h2 y hy), p2⟩, fun a ha b hb => ?_⟩, ?_, fun z hz => ?_⟩
  · rcases List.mem_cons.1 hb with rfl | hb
    · exact h1 a ha
    · exact p3 a ha b hb
  · refine List.perm_middle.trans ?_
    rw [List.take_append_drop]
    exact (List.Perm.cons x h.perm).trans (List.perm_append_comm (l₁ := [x]))
  · rw [Cls_app, Cls_cons, Cls_app, ← h.cls z hz]
    have e : Cls z s = Cls z (s.take n) ++ Cls z (s.drop n) := by rw [← Cls_app, List.take_append_drop]
    rw [e]
    by_cases q : cmpI z x = 0
    · have : Cls z (s.drop n) = [] := Cls_nil fun y hy hzy => by
        have a := h2 y hy
        have wy := ms y (List.mem_of_mem_drop hy)
        have b : cmpI y x ≤ 0 := cmpI_trans hz hx wy (by have := cmpI_anti z y; omega) (by omega)
        have := cmpI_anti x y
        omega
      rw [this, List.append_nil, List.append_nil]
    · rw [Cls_none q, List.nil_append, List.append_nil]
/-- Two stretches change places, each of the second ahead of each of the first: those that are equal stay in order. -/
theorem Cls_swap (A X Y B : List It) (m : May X) (my : May Y) (h : ∀ x ∈ X, ∀ y ∈ Y, cmpI y x < 0) (z : It) (hz : 0 < z.w) : Cls z (A ++ (Y ++ (X ++ B))) = Cls z (A ++ (X ++ (Y ++ B))) := by
  have e : Cls z Y ++ Cls z X = Cls z X ++ Cls z Y := by
    by_cases q : Cls z X = []
    · rw [q]; simp
    · have : Cls z Y = [] := Cls_nil fun y hy hzy => by
        obtain ⟨x, hx⟩ := List.exists_mem_of_ne_nil _ q
        obtain ⟨a, b⟩ := Cls_mem.1 hx
        have c := h x a y hy
        have : cmpI x y ≤ 0 := cmpI_trans hz (my y hy) (m x a) (by have := cmpI_anti z x; omega) (by omega)
        have := cmpI_anti x y
        omega
      rw [this]; simp
  rw [Cls_app, Cls_app, Cls_app, Cls_app, Cls_app, Cls_app, ← List.append_assoc (Cls z Y), e, List.append_assoc]
end Go.Proofs.YthollkngfibgaaaDoor
namespace Go.Proofs.YthollkngfibgaaaDoor
open Go.RowKit

theorem cell_lt {w : World} {p : Addr} {v : Value} (h : w.cell? p = some v) : p.block < w.heap.size := by
  apply Decidable.byContradiction
  intro k
  have e : w.heap[p.block]? = none := by simp; omega
  simp [World.cell?, e] at h
theorem keep_cell {W w1 : World} (hb : Below W.heap.size W w1) {p : Addr} {v : Value} (h : W.cell? p = some v) : w1.cell? p = some v := by
  rw [hb.cell (cell_lt h)]; exact h
theorem keep_alloc {w : World} {p : Addr} {v : Value} (h : w.cell? p = some v) (o : Obj) : (w.alloc o).cell? p = some v := keep_cell ((Below.refl _ _).alloc (Nat.le_refl _) o) h
theorem keep_frozen {W w1 : World} (hb : Below W.heap.size W w1) {p : Addr} (hp : p.block < W.heap.size) (h : W.frozen? p = false) : w1.frozen? p = false := by
  rw [hb.frozen hp]; exact h
theorem keep_melt {W w1 : World} {p : Addr} {v : Value} (hb : Below W.heap.size W w1) (hc : W.cell? p = some v) (h : W.frozen? p = false) : w1.frozen? p = false := keep_frozen hb (cell_lt hc) h
theorem keep_set {w : World} {p a : Addr} {v : Value} (h : w.cell? p = some v) (u : Value) (hne : p.block ≠ a.block) : (w.setCell a u).cell? p = some v := by
  rw [World.cell?_of_block (w := w) (Below.heap_setCell w a u p.block hne)]; exact h
theorem below_drewN {B : Nat} {a w : World} (h : Below B a w) (n : Nat) : Below B a (w.drewN n) := ⟨h.os, h.tape, h.output, h.size, h.block⟩
theorem below_step {w a b : World} (h : Below w.heap.size w a) (k : Below a.heap.size a b) : Below w.heap.size w b := h.trans (k.mono h.size)

/-- A limb. -/
abbrev lv (x : Nat) : Value := .int .u32 (x : Int)

/-- The slice at A of length n reads as the limbs xs. -/
structure Lim (w : World) (A : Option Addr) (n c : Nat) (xs : List Nat) : Prop where
  len : xs.length = n
  cap : n ≤ c
  top : c ≤ 9223372036854775807
  at_ : ∀ j (h : j < xs.length), ∃ ad, A = some ad ∧ w.cell? (ad.add j) = some (lv xs[j])
  lo : Lo xs

section
variable {w w' : World} {A : Option Addr} {n c : Nat} {xs : List Nat}
theorem Lim.next (h : Lim w A n c xs) (hb : Below w.heap.size w w') : Lim w' A n c xs :=
  ⟨h.len, h.cap, h.top, fun j hj => by
    obtain ⟨ad, e, hc⟩ := h.at_ j hj
    exact ⟨ad, e, keep_cell hb hc⟩, h.lo⟩
theorem Lim.drewN (h : Lim w A n c xs) (k : Nat) : Lim (w.drewN k) A n c xs := ⟨h.len, h.cap, h.top, h.at_, h.lo⟩
theorem Lim.drew (h : Lim w A n c xs) : Lim w.drew A n c xs := ⟨h.len, h.cap, h.top, h.at_, h.lo⟩
theorem Lim.alloc (h : Lim w A n c xs) (o : Obj) : Lim (w.alloc o) A n c xs := h.next ((Below.refl _ _).alloc (Nat.le_refl _) o)
theorem Lim.none_ (w : World) (A : Option Addr) (c : Nat) (hc : c ≤ 9223372036854775807) : Lim w A 0 c [] := ⟨rfl, Nat.zero_le _, hc, fun j hj => absurd hj (by simp), .nil⟩
theorem Lim.take (h : Lim w A n c xs) {k : Nat} (hk : k ≤ n) : Lim w A k c (xs.take k) :=
  ⟨by have := h.len; simp; omega, Nat.le_trans hk h.cap, h.top, fun j hj => by
    have hj' : j < xs.length := by simp at hj; omega
    obtain ⟨ad, e, hc⟩ := h.at_ j hj'
    exact ⟨ad, e, by simpa using hc⟩, h.lo.take k⟩
theorem Lim.cell {ad : Addr} (h : Lim w (some ad) n c xs) (j : Nat) (hj : j < xs.length) : w.cell? (ad.add j) = some (lv xs[j]) := by
  obtain ⟨ad', e, hc⟩ := h.at_ j hj
  injection e with e
  subst e
  exact hc
theorem Lim.some_ (h : Lim w A n c xs) (hn : 0 < n) : ∃ ad, A = some ad := by
  obtain ⟨ad, e, _⟩ := h.at_ 0 (by have := h.len; omega)
  exact ⟨ad, e⟩
end

/-- What a call answers that makes a natural. -/
def RetN (r : Nat) (w : World) (e : Ending) (w' : World) : Prop := ∃ A n c, e = .returned (.slice A n c) ∧ Lim w' A n c (limbs r) ∧ Below w.heap.size w w'
/-- .. and an error. -/
def RetE (r : Nat) (k : Int) (w : World) (e : Ending) (w' : World) : Prop := ∃ A n c, e = .returned (.tuple #[.slice A n c, .int .i64 k]) ∧ Lim w' A n c (limbs r) ∧ Below w.heap.size w w'
end Go.Proofs.YthollkngfibgaaaDoor
namespace Go.Proofs.YthollkngfibgaaaDoor
open Go.RowKit
theorem add_next (ad : Addr) (k : Nat) : (⟨(ad.add k).block, (ad.add k).off + 1, none⟩ : Addr) = ad.add (k + 1) := by
  unfold Addr.add
  rw [if_neg (Nat.succ_ne_zero k)]
  split
  · rename_i h; rw [h]
  · simp [Nat.add_assoc]
theorem add_next2 (ad : Addr) (k : Nat) : (⟨(ad.add k).block, (ad.add k).off + 2, none⟩ : Addr) = ad.add (k + 2) := by
  unfold Addr.add
  rw [if_neg (Nat.succ_ne_zero (k + 1))]
  split
  · rename_i h; rw [h]
  · simp [Nat.add_assoc]
/-- The slice at A of length n reads as the items s. -/
structure Its (W : World) (A : Option Addr) (n c : Nat) (s : List It) : Prop where
  len : s.length = n
  cap : n ≤ c
  top : c ≤ 9223372036854775807
  at_ : ∀ j (h : j < s.length), ∃ ad, A = some ad ∧ W.cell? (ad.add (j * 3)) = some (.string s[j].k) ∧ W.cell? (ad.add (j * 3 + 1)) = some (.int .u64 (s[j].u : Int)) ∧ W.cell? (ad.add (j * 3 + 2)) = some (.int .u64 (s[j].w : Int))
  fit : ∀ x ∈ s, x.Fit
section
variable {W W' : World} {A : Option Addr} {n c : Nat} {s : List It}
theorem Its.none_ (W : World) (n c : Nat) (h : n = 0) (hc : c ≤ 9223372036854775807) : Its W none n c [] :=
  ⟨h ▸ rfl, by omega, hc, fun j hj => absurd hj (by simp), fun s hs => absurd hs (by simp)⟩
theorem Its.next (h : Its W A n c s) (hb : Below W.heap.size W W') : Its W' A n c s :=
  ⟨h.len, h.cap, h.top, fun j hj => by
    obtain ⟨ad, e, h0, h1, h2⟩ := h.at_ j hj
    exact ⟨ad, e, keep_cell hb h0, keep_cell hb h1, keep_cell hb h2⟩, h.fit⟩
theorem Its.alloc (h : Its W A n c s) (o : Obj) : Its (W.alloc o) A n c s := h.next ((Below.refl _ _).alloc (Nat.le_refl _) o)
theorem Its.drew (h : Its W A n c s) : Its W.drew A n c s := ⟨h.len, h.cap, h.top, h.at_, h.fit⟩
/-- .. as the walk reads it. -/
theorem Its.read (h : Its W A n c s) (j : Nat) (hj : j < n) : ∃ (ad : Addr) (hj' : j < s.length), A = some ad ∧ W.cell? (ad.add (j * 3)) = some (.string s[j].k) ∧ W.cell? ⟨(ad.add (j * 3)).block, (ad.add (j * 3)).off + 1, none⟩ = some (.int .u64 (s[j].u : Int)) ∧ W.cell? ⟨(ad.add (j * 3)).block, (ad.add (j * 3)).off + 2, none⟩ = some (.int .u64 (s[j].w : Int)) ∧ s[j].Fit := by
  have hj' : j < s.length := by rw [h.len]; exact hj
  obtain ⟨ad, e, h0, h1, h2⟩ := h.at_ j hj'
  exact ⟨ad, hj', e, h0, by rw [add_next]; exact h1, by rw [add_next2]; exact h2, h.fit _ (List.getElem_mem hj')⟩
end
end Go.Proofs.YthollkngfibgaaaDoor
namespace Go.Proofs.YthollkngfibgaaaDoor.Wd

/-- The upper word. -/
@[irreducible] def hi (n : Nat) : Int := ((n / 18446744073709551616 : Nat) : Int)
/-- The lower word. -/
@[irreducible] def lo (n : Nat) : Int := ((n % 18446744073709551616 : Nat) : Int)
/-- A word. -/
@[irreducible] def Word (x : Int) : Prop := 0 ≤ x ∧ x < 18446744073709551616
theorem Word.mk {x : Int} (h : 0 ≤ x) (k : x < 18446744073709551616) : Word x := by unfold Word; exact ⟨h, k⟩
theorem Word.nn {x : Int} (h : Word x) : 0 ≤ x := by unfold Word at h; exact h.1
theorem Word.lt {x : Int} (h : Word x) : x < 18446744073709551616 := by unfold Word at h; exact h.2
/-- Below 2 to the 128. -/
@[irreducible] def Fits (n : Nat) : Prop := n < 340282366920938463463374607431768211456

theorem hi_nonneg (n : Nat) : 0 ≤ hi n := by unfold hi; omega
theorem lo_nonneg (n : Nat) : 0 ≤ lo n := by unfold lo; omega
theorem lo_lt (n : Nat) : lo n < 18446744073709551616 := by unfold lo; omega
theorem hi_lt {n : Nat} (h : Fits n) : hi n < 18446744073709551616 := by unfold hi Fits at *; omega
theorem word_lo (n : Nat) : Word (lo n) := .mk (lo_nonneg n) (lo_lt n)
theorem word_hi {n : Nat} (h : Fits n) : Word (hi n) := .mk (hi_nonneg n) (hi_lt h)
theorem word_nat {n : Nat} (h : n < 18446744073709551616) : Word n := .mk (by omega) (by omega)
theorem hi_zero : hi 0 = 0 := by unfold hi; rfl
theorem lo_zero : lo 0 = 0 := by unfold lo; rfl
theorem hi_small {n : Nat} (h : n < 18446744073709551616) : hi n = 0 := by unfold hi; omega
theorem lo_small {n : Nat} (h : n < 18446744073709551616) : lo n = n := by unfold lo; omega
theorem eq_of_words {a b : Nat} (h : hi a = hi b) (k : lo a = lo b) : a = b := by unfold hi lo at *; omega
theorem words_of (h l : Int) (h0 : 0 ≤ h) (h1 : h < 18446744073709551616) (l0 : 0 ≤ l) (l1 : l < 18446744073709551616) : ∃ n, Fits n ∧ h = hi n ∧ l = lo n :=
  ⟨(h * 18446744073709551616 + l).toNat, by unfold Fits; omega, by unfold hi; omega, by unfold lo; omega⟩

theorem add_lo (a b : Nat) : (lo a + lo b) % 18446744073709551616 = lo (a + b) := by unfold lo; omega
theorem add_hi (a b : Nat) (h : Fits (a + b)) : (hi a + hi b + (lo a + lo b) / 18446744073709551616) % 18446744073709551616 = hi (a + b) := by unfold hi lo Fits at *; omega
theorem add_no (a b : Nat) (h : Fits (a + b)) : (hi a + hi b + (lo a + lo b) / 18446744073709551616) / 18446744073709551616 = 0 := by unfold hi lo Fits at *; omega
theorem add_yes (a b : Nat) (ha : Fits a) (hb : Fits b) (h : ¬ Fits (a + b)) : (hi a + hi b + (lo a + lo b) / 18446744073709551616) / 18446744073709551616 = 1 := by unfold hi lo Fits at *; omega

/-- -1, 0 or 1. -/
@[irreducible] def sgn (a b : Nat) : Int := if a < b then -1 else if b < a then 1 else 0
/-- The borrow. -/
@[irreducible] def bor (x y : Int) : Int := if x < y then 1 else 0
theorem bor_lo (x y : Int) : 0 ≤ bor x y := by unfold bor; split <;> decide
theorem bor_hi (x y : Int) : bor x y ≤ 1 := by unfold bor; split <;> decide
theorem sub_lo (a b : Nat) (h : b ≤ a) : (lo a - lo b) % 18446744073709551616 = lo (a - b) := by unfold lo; omega
theorem sub_hi (a b : Nat) (ha : Fits a) (h : b ≤ a) : (hi a - hi b - bor (lo a) (lo b)) % 18446744073709551616 = hi (a - b) := by unfold bor hi lo Fits at *; split <;> omega
theorem sub_no (a b : Nat) (h : b ≤ a) : bor (hi a) (hi b + bor (lo a) (lo b)) = 0 := by unfold bor hi lo at *; (repeat' split) <;> omega
theorem sub_yes (a b : Nat) (h : ¬ b ≤ a) : bor (hi a) (hi b + bor (lo a) (lo b)) = 1 := by unfold bor hi lo at *; (repeat' split) <;> omega
/-- The same of two words. -/
@[irreducible] def cmpI (x y : Int) : Int := if x < y then -1 else if y < x then 1 else 0
theorem cmpI_lt {x y : Int} (h : x < y) : cmpI x y = -1 := by unfold cmpI; rw [if_pos h]
theorem cmpI_gt {x y : Int} (h : y < x) : cmpI x y = 1 := by unfold cmpI; rw [if_neg (by omega), if_pos h]
theorem cmpI_eq {x y : Int} (h : ¬ x < y) (k : ¬ y < x) : cmpI x y = 0 := by unfold cmpI; rw [if_neg h, if_neg k]
theorem sgn_eq_hi (a b : Nat) (h : hi a = hi b) : cmpI (lo a) (lo b) = sgn a b := by unfold cmpI sgn hi lo at *; (repeat' split) <;> omega
theorem sgn_ne_hi (a b : Nat) (h : hi a ≠ hi b) : cmpI (hi a) (hi b) = sgn a b := by unfold cmpI sgn hi at *; (repeat' split) <;> omega

theorem toNat_hi (n : Nat) : (hi n).toNat = n / 18446744073709551616 := by unfold hi; omega
theorem toNat_lo (n : Nat) : (lo n).toNat = n % 18446744073709551616 := by unfold lo; omega
theorem split_mul (x1 x0 y1 y0 K : Nat) : (x1 * K + x0) * (y1 * K + y0) = x1 * y1 * (K * K) + (x1 * y0 + x0 * y1) * K + x0 * y0 := by
  rw [Nat.add_mul, Nat.mul_add, Nat.mul_add, Nat.mul_mul_mul_comm, Nat.mul_right_comm x1 K y0, ← Nat.mul_assoc x0 y1 K, Nat.add_mul]
  omega
/-- A product by its words. -/
theorem mul_words (a b : Nat) : a * b = (hi a).toNat * (hi b).toNat * 340282366920938463463374607431768211456 + ((hi a).toNat * (lo b).toNat + (lo a).toNat * (hi b).toNat) * 18446744073709551616 + (lo a).toNat * (lo b).toNat := by
  rw [toNat_hi, toNat_hi, toNat_lo, toNat_lo]
  have h := split_mul (a / 18446744073709551616) (a % 18446744073709551616) (b / 18446744073709551616) (b % 18446744073709551616) 18446744073709551616
  rw [Nat.div_add_mod' a 18446744073709551616, Nat.div_add_mod' b 18446744073709551616] at h
  exact h
theorem mul_both (a b : Nat) (h : hi a ≠ 0) (k : hi b ≠ 0) : ¬ Fits (a * b) := by
  have e := mul_words a b
  have : 1 ≤ (hi a).toNat * (hi b).toNat := by
    have h1 : 1 ≤ (hi a).toNat := by have := hi_nonneg a; omega
    have h2 : 1 ≤ (hi b).toNat := by have := hi_nonneg b; omega
    exact Nat.mul_le_mul h1 h2
  unfold Fits; omega
theorem hi_ne {x : Nat} (h : hi x ≠ 0) : 18446744073709551616 ≤ x := by unfold hi at h; omega
theorem mul_left (a b : Nat) (h : hi ((hi a).toNat * (lo b).toNat) ≠ 0) : ¬ Fits (a * b) := by
  have e := mul_words a b
  have : 18446744073709551616 ≤ (hi a).toNat * (lo b).toNat := hi_ne h
  unfold Fits; omega
theorem mul_right (a b : Nat) (h : hi ((lo a).toNat * (hi b).toNat) ≠ 0) : ¬ Fits (a * b) := by
  have e := mul_words a b
  have : 18446744073709551616 ≤ (lo a).toNat * (hi b).toNat := hi_ne h
  unfold Fits; omega
/-- What is added to the product of the lower words. -/
@[irreducible] def upper (a b : Nat) : Nat := ((hi a).toNat * (lo b).toNat + (lo a).toNat * (hi b).toNat) * 18446744073709551616
theorem lo_upper (a b : Nat) : lo (upper a b) = 0 := by unfold lo upper; omega
theorem zero_mul_or (a b : Nat) (h : ¬ (hi a ≠ 0 ∧ hi b ≠ 0)) : (hi a).toNat * (lo b).toNat = 0 ∨ (lo a).toNat * (hi b).toNat = 0 := by
  by_cases k : hi a = 0
  · left; rw [k]; simp
  · right; have : hi b = 0 := by omega
    rw [this]; simp
theorem hi_upper (a b : Nat) (h : ¬ (hi a ≠ 0 ∧ hi b ≠ 0)) (l : hi ((hi a).toNat * (lo b).toNat) = 0) (r : hi ((lo a).toNat * (hi b).toNat) = 0) :
    (lo ((hi a).toNat * (lo b).toNat) + lo ((lo a).toNat * (hi b).toNat)) % 18446744073709551616 = hi (upper a b) := by
  have := zero_mul_or a b h
  unfold upper
  generalize (hi a).toNat * (lo b).toNat = x at *
  generalize (lo a).toNat * (hi b).toNat = y at *
  unfold hi lo at *
  omega
theorem fits_upper (a b : Nat) (h : ¬ (hi a ≠ 0 ∧ hi b ≠ 0)) (l : hi ((hi a).toNat * (lo b).toNat) = 0) (r : hi ((lo a).toNat * (hi b).toNat) = 0) : Fits (upper a b) := by
  have := zero_mul_or a b h
  unfold upper
  generalize (hi a).toNat * (lo b).toNat = x at *
  generalize (lo a).toNat * (hi b).toNat = y at *
  unfold hi Fits at *
  omega
theorem mul_sum (a b : Nat) (h : ¬ (hi a ≠ 0 ∧ hi b ≠ 0)) : (lo a).toNat * (lo b).toNat + upper a b = a * b := by
  have e := mul_words a b
  have : (hi a).toNat * (hi b).toNat = 0 := by
    by_cases k : hi a = 0
    · rw [k]; simp
    · have : hi b = 0 := by omega
      rw [this]; simp
  unfold upper; omega
theorem fits_lows (a b : Nat) : Fits ((lo a).toNat * (lo b).toNat) := by
  have h1 : (lo a).toNat ≤ 18446744073709551615 := by have := lo_lt a; have := lo_nonneg a; omega
  have h2 : (lo b).toNat ≤ 18446744073709551615 := by have := lo_lt b; have := lo_nonneg b; omega
  have := Nat.mul_le_mul h1 h2
  unfold Fits; omega

/-- Whether a number fits. -/
@[irreducible] def fitsB (n : Nat) : Bool := decide (n < 340282366920938463463374607431768211456)
/-- The number, or 0. -/
@[irreducible] def cut (n : Nat) : Nat := if n < 340282366920938463463374607431768211456 then n else 0
theorem fitsB_yes {n : Nat} (h : Fits n) : fitsB n = true := by unfold fitsB; unfold Fits at h; simpa using h
theorem fitsB_no {n : Nat} (h : ¬ Fits n) : fitsB n = false := by unfold fitsB; unfold Fits at h; simpa using h
theorem cut_yes {n : Nat} (h : Fits n) : cut n = n := by unfold cut; unfold Fits at h; rw [if_pos h]
theorem cut_no {n : Nat} (h : ¬ Fits n) : cut n = 0 := by unfold cut; unfold Fits at h; rw [if_neg h]
theorem fits_cut (n : Nat) : Fits (cut n) := by
  by_cases h : Fits n
  · rw [cut_yes h]; exact h
  · rw [cut_no h]; unfold Fits; decide
end Go.Proofs.YthollkngfibgaaaDoor.Wd
namespace Go.Proofs.YthollkngfibgaaaDoor.Wd
open Go.RowKit

/-- A number of 128 bits as a value. -/
abbrev U (n : Nat) : Value := .agg #[.int .u64 (hi n), .int .u64 (lo n)]

/-- What is told of other spellings of the arguments. -/
theorem calls_at1 {P : Program} {f : FuncId} {x x' : Value} {w : World} {Q : Ending → World → Prop} (hx : x = x') (h : Calls P f #[x'] w Q) : Calls P f #[x] w Q := by rw [hx]; exact h
theorem calls_at2 {P : Program} {f : FuncId} {x y x' y' : Value} {w : World} {Q : Ending → World → Prop} (hx : x = x') (hy : y = y') (h : Calls P f #[x', y'] w Q) : Calls P f #[x, y] w Q := by rw [hx, hy]; exact h
theorem cell_lt {w : World} {p : Addr} {v : Value} (h : w.cell? p = some v) : p.block < w.heap.size := by
  apply Decidable.byContradiction
  intro k
  have e : w.heap[p.block]? = none := by simp; omega
  simp [World.cell?, e] at h
theorem keep_cell {W w1 : World} (hb : Below W.heap.size W w1) {p : Addr} {v : Value} (h : W.cell? p = some v) : w1.cell? p = some v := by
  rw [hb.cell (cell_lt h)]; exact h
theorem U_of {h l : Int} {n : Nat} (e1 : h = hi n) (e2 : l = lo n) : Value.agg #[.int .u64 h, .int .u64 l] = U n := by rw [e1, e2]
/-- What was there stays. -/
theorem keep_alloc {w : World} {p : Addr} {v : Value} (h : w.cell? p = some v) (o : Obj) : (w.alloc o).cell? p = some v := keep_cell ((Below.refl _ _).alloc (Nat.le_refl _) o) h

theorem keep_drew {w : World} {p : Addr} {v : Value} (h : w.cell? p = some v) : w.drew.cell? p = some v := h
theorem keep_frozen {W w1 : World} (hb : Below W.heap.size W w1) {p : Addr} (hp : p.block < W.heap.size) (h : W.frozen? p = false) : w1.frozen? p = false := by
  rw [hb.frozen hp]; exact h
theorem melt_alloc {w : World} {p : Addr} (h : w.frozen? p = false) (c : Array Value) (t : TypeId) : (w.alloc (.cells c t)).frozen? p = false := by
  rw [frozen?_alloc_cells]; exact h
theorem melt_drew {w : World} {p : Addr} (h : w.frozen? p = false) : w.drew.frozen? p = false := h

/-- wide.Full. -/
theorem full_any (x y : Int) (wx : Word x) (wy : Word y) (w : World) :
    Calls Tryd.prog 31 #[.int .u64 x, .int .u64 y] w fun e w' => e = .returned (U (x.toNat * y.toNat)) ∧ ∃ c, w' = w.alloc (.cells c 60) := by
  have hx := wx.nn; have hx' := wx.lt; have hy := wy.nn; have hy' := wy.lt
  clear wx wy
  obtain ⟨x, rfl⟩ := Int.eq_ofNat_of_zero_le hx
  obtain ⟨y, rfl⟩ := Int.eq_ofNat_of_zero_le hy
  rw [Int.toNat_natCast, Int.toNat_natCast]
  have e1 : ((x * y / 18446744073709551616 : Nat) : Int) = hi (x * y) := by unfold hi; rfl
  have e2 : ((x * y % 18446744073709551616 : Nat) : Int) = lo (x * y) := by unfold lo; rfl
  have H1 := Lib.hid e1
  have H2 := Lib.hid e2
  have kx : x < 18446744073709551616 := by omega
  have ky : y < 18446744073709551616 := by omega
  clear e1 e2 hx hx' hy hy'
  go_enter Tryd.func31, Tryd.ntmps31
  go_wp2_with (go_at_call 55; refine (Tryd.bits_Mul64 x y kx ky _).mono ?_; rintro e w' ⟨rfl, rfl⟩; rw [H1.out, H2.out])
  exact bodyPost_ret (v := U (x * y)) (by simp [results, Tryd.results31, go_sem]) rfl ⟨rfl, _, rfl⟩

theorem full_bel (x y : Int) (wx : Word x) (wy : Word y) (w : World) :
    Calls Tryd.prog 31 #[.int .u64 x, .int .u64 y] w fun e w' => e = .returned (U (x.toNat * y.toNat)) ∧ Below w.heap.size w w' :=
  (full_any x y wx wy w).mono fun _ _ ⟨he, _, hw⟩ => ⟨he, by subst hw; exact (Below.refl _ _).alloc (Nat.le_refl _) _⟩
theorem three_bel (w : World) (c1 c2 c3 : Array Value) : Below w.heap.size w (((w.alloc (.cells c1 60)).alloc (.cells c2 60)).alloc (.cells c3 60)) :=
  (((Below.refl _ _).alloc (Nat.le_refl _) _).alloc (by simp) _).alloc (by simp only [World.size_alloc]; omega) _
theorem two_bel (w : World) (c1 c2 : Array Value) : Below w.heap.size w ((w.alloc (.cells c1 60)).alloc (.cells c2 60)) :=
  ((Below.refl _ _).alloc (Nat.le_refl _) _).alloc (by simp) _
/-- A cell that may be written stays so. -/
theorem keep_melt {W w1 : World} {p : Addr} {v : Value} (hb : Below W.heap.size W w1) (hc : W.cell? p = some v) (h : W.frozen? p = false) : w1.frozen? p = false := keep_frozen hb (cell_lt hc) h

theorem keep_set {w : World} {p a : Addr} {v : Value} (h : w.cell? p = some v) (u : Value) (hne : p.block ≠ a.block) : (w.setCell a u).cell? p = some v := by
  rw [World.cell?_of_block (w := w) (Below.heap_setCell w a u p.block hne)]; exact h

/-- wide.compare. -/
theorem compare_any (x y : Int) (w : World) : Calls Tryd.prog 54 #[.int .u64 x, .int .u64 y] w fun e w' => e = .returned (.int .i64 (cmpI x y)) ∧ w = w' := by
  by_cases h1 : x < y
  · have e := Lib.hid (cmpI_lt h1)
    go_enter Tryd.func54, Tryd.ntmps54
    go_wp2
    go_ret
    exact ⟨by rw [e.out]; rfl, rfl⟩
  · by_cases h2 : y < x
    · have e := Lib.hid (cmpI_gt h2)
      go_enter Tryd.func54, Tryd.ntmps54
      go_wp2
      go_ret
      exact ⟨by rw [e.out]; rfl, rfl⟩
    · have e := Lib.hid (cmpI_eq h1 h2)
      go_enter Tryd.func54, Tryd.ntmps54
      go_wp2
      go_ret
      exact ⟨by rw [e.out]; rfl, rfl⟩

/-- wide.Cmp. -/
theorem cmp_any (a b : Nat) (w : World) : Calls Tryd.prog 30 #[U a, U b] w fun e w' => e = .returned (.int .i64 (sgn a b)) ∧ ∃ c1 c2, w' = (w.alloc (.cells c1 60)).alloc (.cells c2 60) := by
  by_cases h : hi a = hi b
  · have hs := Lib.hid (sgn_eq_hi a b h)
    have hb : (hi a == hi b) = true := by simpa using h
    have hb' : (hi a != hi b) = false := by simpa using h
    clear h
    go_enter Tryd.func30, Tryd.ntmps30
    go_wp2_with (go_at_call 54; refine (compare_any _ _ _).mono ?_; rintro e w' ⟨rfl, rfl⟩; rw [hs.out])
    go_ret
    exact ⟨rfl, _, _, rfl⟩
  · have hs := Lib.hid (sgn_ne_hi a b h)
    have hb : (hi a == hi b) = false := by simpa using h
    have hb' : (hi a != hi b) = true := by simpa using h
    clear h
    go_enter Tryd.func30, Tryd.ntmps30
    go_wp2_with (go_at_call 54; refine (compare_any _ _ _).mono ?_; rintro e w' ⟨rfl, rfl⟩; rw [hs.out])
    go_ret
    exact ⟨rfl, _, _, rfl⟩

end Go.Proofs.YthollkngfibgaaaDoor.Wd
namespace Go.Proofs.YthollkngfibgaaaDoor.Wd
open Go.RowKit
set_option linter.unusedSimpArgs false
set_option linter.unusedVariables false

def MulRel (a b : Nat) (w : World) (s6 s7 : Value) (wx : World) : Prop := ∃ g6 g7 : Nat, s6 = .pointer (some ⟨g6, 0, none⟩) ∧ s7 = .pointer (some ⟨g7, 0, none⟩) ∧
    wx.cell? ⟨g6, 0, none⟩ = some (.int .u64 (hi ((hi a).toNat * (lo b).toNat))) ∧ wx.cell? ⟨g6, 1, none⟩ = some (.int .u64 (lo ((hi a).toNat * (lo b).toNat))) ∧
    wx.cell? ⟨g7, 0, none⟩ = some (.int .u64 (hi ((lo a).toNat * (hi b).toNat))) ∧ wx.cell? ⟨g7, 1, none⟩ = some (.int .u64 (lo ((lo a).toNat * (hi b).toNat))) ∧
    w.heap.size + 3 ≤ wx.heap.size ∧ w.heap.size + 3 ≤ g6 ∧ w.heap.size + 3 ≤ g7 ∧
    Below (w.heap.size + 3) (((w.alloc (.cells #[.int .u64 (hi a), .int .u64 (lo a)] 60)).alloc (.cells #[.int .u64 (hi b), .int .u64 (lo b)] 60)).alloc (.cells #[.int .u64 0, .int .u64 0] 60)) wx

def MulEnd (a b : Nat) (w : World) (e : Ending) (w' : World) : Prop := e = .returned (.tuple #[U (cut (a * b)), .bool (fitsB (a * b))]) ∧ Below w.heap.size w w'

end Go.Proofs.YthollkngfibgaaaDoor.Wd
namespace Go.Proofs.YthollkngfibgaaaDoor.Wd
open Go.RowKit
set_option linter.unusedSimpArgs false
set_option linter.unusedVariables false

/-- In each block the number lies that stands beside it. -/
def Lie : List (Nat × Nat) → World → Prop
  | [], _ => True
  | (b, n) :: r, w => w.cell? ⟨b, 0, none⟩ = some (.int .u64 (hi n)) ∧ w.cell? ⟨b, 1, none⟩ = some (.int .u64 (lo n)) ∧ Lie r w
theorem Lie.next {W w1 : World} (hb : Below W.heap.size W w1) : ∀ {L : List (Nat × Nat)}, Lie L W → Lie L w1
  | [], _ => trivial
  | (_, _) :: _, h => ⟨keep_cell hb h.1, keep_cell hb h.2.1, Lie.next hb h.2.2⟩
theorem Lie.box {W : World} {L : List (Nat × Nat)} (h : Lie L W) (n : Nat) : Lie ((W.heap.size, n) :: L) (W.alloc (.cells #[.int .u64 (hi n), .int .u64 (lo n)] 60)) :=
  ⟨by simp [go_sem], by simp [go_sem], Lie.next ((Below.refl _ _).alloc (Nat.le_refl _) _) h⟩
theorem Lie.drew {W : World} : ∀ {L : List (Nat × Nat)}, Lie L W → Lie L W.drew
  | [], _ => trivial
  | (_, _) :: _, h => ⟨h.1, h.2.1, Lie.drew h.2.2⟩
/-- .. and nothing that was there has turned. -/
structure St (w : World) (L : List (Nat × Nat)) (wx : World) : Prop where
  lie : Lie L wx
  bl : Below w.heap.size w wx
theorem St.start (w : World) : St w [] w := ⟨trivial, Below.refl _ _⟩
theorem St.next {w : World} {L : List (Nat × Nat)} {W w1 : World} (s : St w L W) (hb : Below W.heap.size W w1) : St w L w1 := ⟨s.lie.next hb, below_step s.bl hb⟩
theorem St.box {w : World} {L : List (Nat × Nat)} {W : World} (s : St w L W) (n : Nat) : St w ((W.heap.size, n) :: L) (W.alloc (.cells #[.int .u64 (hi n), .int .u64 (lo n)] 60)) := ⟨s.lie.box n, s.bl.alloc s.bl.size _⟩
theorem St.drew {w : World} {L : List (Nat × Nat)} {W : World} (s : St w L W) : St w L W.drew := ⟨s.lie.drew, s.bl.drew⟩

theorem fact_of {p q : Prop} (h : p) (k : p → q) : q := k h

theorem cell_put0 {w : World} {b : Nat} {u v : Value} (h : w.cell? ⟨b, 0, none⟩ = some (.int .u64 0)) : ((w.setCell ⟨b, 0, none⟩ u).setCell ⟨b, 1, none⟩ v).cell? ⟨b, 0, none⟩ = some u := by simp [go_sem, h]
theorem cell_put1 {w : World} {b : Nat} {u v : Value} (h : w.cell? ⟨b, 1, none⟩ = some (.int .u64 0)) : ((w.setCell ⟨b, 0, none⟩ u).setCell ⟨b, 1, none⟩ v).cell? ⟨b, 1, none⟩ = some v := by simp [go_sem, h]

/-- Three blocks of the call's own: two numbers, and one that may be written. -/
structure Three (w : World) (a b : Nat) (x y : Value) (wx : World) : Prop where
  a0 : wx.cell? ⟨w.heap.size, 0, none⟩ = some (.int .u64 (hi a))
  a1 : wx.cell? ⟨w.heap.size, 1, none⟩ = some (.int .u64 (lo a))
  b0 : wx.cell? ⟨w.heap.size + 1, 0, none⟩ = some (.int .u64 (hi b))
  b1 : wx.cell? ⟨w.heap.size + 1, 1, none⟩ = some (.int .u64 (lo b))
  r0 : wx.cell? ⟨w.heap.size + 1 + 1, 0, none⟩ = some x
  r1 : wx.cell? ⟨w.heap.size + 1 + 1, 1, none⟩ = some y
  m0 : wx.frozen? ⟨w.heap.size + 1 + 1, 0, none⟩ = false
  m1 : wx.frozen? ⟨w.heap.size + 1 + 1, 1, none⟩ = false
  sz : w.heap.size + 1 + 1 < wx.heap.size
  bl : Below w.heap.size w wx
theorem Three.next {w : World} {a b : Nat} {x y : Value} {W w1 : World} (t : Three w a b x y W) (hb : Below W.heap.size W w1) : Three w a b x y w1 :=
  ⟨keep_cell hb t.a0, keep_cell hb t.a1, keep_cell hb t.b0, keep_cell hb t.b1, keep_cell hb t.r0, keep_cell hb t.r1, keep_melt hb t.r0 t.m0, keep_melt hb t.r1 t.m1, Nat.lt_of_lt_of_le t.sz hb.size, t.bl.trans (hb.mono (by have := t.sz; omega))⟩
theorem Three.start (w : World) (a b : Nat) (x y : Value) : Three w a b x y (((w.alloc (.cells #[.int .u64 (hi a), .int .u64 (lo a)] 60)).alloc (.cells #[.int .u64 (hi b), .int .u64 (lo b)] 60)).alloc (.cells #[x, y] 60)) := by
  refine ⟨?_, ?_, ?_, ?_, ?_, ?_, ?_, ?_, ?_, three_bel _ _ _ _⟩ <;> simp [go_sem, World.cell?_alloc_past]
theorem Three.drewN {w : World} {a b : Nat} {x y : Value} {W : World} (t : Three w a b x y W) (n : Nat) : Three w a b x y (W.drewN n) := ⟨t.a0, t.a1, t.b0, t.b1, t.r0, t.r1, t.m0, t.m1, t.sz, below_drewN t.bl n⟩
theorem Three.drew {w : World} {a b : Nat} {x y : Value} {W : World} (t : Three w a b x y W) : Three w a b x y W.drew := ⟨t.a0, t.a1, t.b0, t.b1, t.r0, t.r1, t.m0, t.m1, t.sz, t.bl.drew⟩

theorem Three.set {w : World} {a b : Nat} {x y : Value} {W : World} (t : Three w a b x y W) {p : Addr} (v : Value) (hp : w.heap.size + 1 + 1 < p.block) : Three w a b x y (W.setCell p v) :=
  ⟨keep_set t.a0 _ (by simp <;> omega), keep_set t.a1 _ (by simp <;> omega), keep_set t.b0 _ (by simp <;> omega), keep_set t.b1 _ (by simp <;> omega), keep_set t.r0 _ (by simp <;> omega), keep_set t.r1 _ (by simp <;> omega),
    (World.frozen?_setCell _ _ _ _).trans t.m0, (World.frozen?_setCell _ _ _ _).trans t.m1, by rw [World.size_setCell]; exact t.sz, t.bl.setCell (by omega) _⟩
theorem Three.alloc {w : World} {a b : Nat} {x y : Value} {W : World} (t : Three w a b x y W) (o : Obj) : Three w a b x y (W.alloc o) := t.next ((Below.refl _ _).alloc (Nat.le_refl _) o)
theorem bcell {W w1 : World} (hb : Below W.heap.size W w1) : (∀ b o, b < W.heap.size → w1.cell? ⟨b, o, none⟩ = W.cell? ⟨b, o, none⟩) ∧ (∀ b o, b < W.heap.size → w1.frozen? ⟨b, o, none⟩ = W.frozen? ⟨b, o, none⟩) :=
  ⟨fun _ _ h => hb.cell h, fun _ _ h => hb.frozen h⟩

theorem cmp_bel (a b : Nat) (w : World) : Calls Tryd.prog 30 #[U a, U b] w fun e w' => e = .returned (.int .i64 (sgn a b)) ∧ Below w.heap.size w w' :=
  (cmp_any a b w).mono fun _ _ ⟨he, _, _, hw⟩ => ⟨he, by subst hw; exact two_bel _ _ _⟩
end Go.Proofs.YthollkngfibgaaaDoor.Wd
