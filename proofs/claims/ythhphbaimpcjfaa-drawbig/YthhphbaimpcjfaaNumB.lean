/- Plain arithmetic: the order of numbers by their limbs; naturals. -/
import Derived.Test.YthhphbaimpcjfaaNum
namespace Go.Proofs.Ythhphbaimpcjfaa
/-- Are limbs a natural's? -/
def Nt (xs : List Nat) : Prop := xs.length ≤ 64 ∧ ∀ hn : xs ≠ [], xs.getLast hn ≠ 0
theorem Nt.eq {xs : List Nat} (h : Nt xs) (k : Lo xs) : xs = limbs (val xs) := (limbs_val k h.2).symm
theorem Nt.of {a : Nat} (h : ln a ≤ 64) : Nt (limbs a) := ⟨h, fun hn => limbs_last a hn⟩
theorem pred_succ_of_pos {n : Nat} (h : 0 < n) : n - 1 + 1 = n := by omega
theorem Nt.no {xs : List Nat} (h : ¬ Nt xs) (k : xs.length ≤ 64) : ∃ j, j + 1 = xs.length ∧ xs[j]? = some 0 := by
  by_cases hn : xs = []
  · exact absurd ⟨k, fun x => absurd hn x⟩ h
  · have hl : 0 < xs.length := List.length_pos_iff.2 hn
    refine ⟨xs.length - 1, pred_succ_of_pos hl, ?_⟩
    by_cases z : xs.getLast hn = 0
    · rw [List.getLast_eq_getElem] at z
      rw [List.getElem?_eq_getElem (Nat.sub_lt hl Nat.one_pos), z]
    · exact absurd ⟨k, fun _ => z⟩ h
/-- -1, 0 or 1. -/
@[irreducible] def sgn (a b : Nat) : Int := if a < b then -1 else if b < a then 1 else 0
theorem sgn_lt {a b : Nat} (h : a < b) : sgn a b = -1 := by unfold sgn; rw [if_pos h]
theorem sgn_gt {a b : Nat} (h : b < a) : sgn a b = 1 := by unfold sgn; rw [if_neg (by omega), if_pos h]
theorem sgn_eq (a : Nat) : sgn a a = 0 := by unfold sgn; rw [if_neg (by omega), if_neg (by omega)]
theorem sgn_congr {a b c d : Nat} (h : a < b ↔ c < d) (k : b < a ↔ d < c) : sgn a b = sgn c d := by
  unfold sgn
  by_cases p : a < b
  · rw [if_pos p, if_pos (h.1 p)]
  · rw [if_neg p, if_neg (fun x => p (h.2 x))]
    by_cases q : b < a
    · rw [if_pos q, if_pos (k.1 q)]
    · rw [if_neg q, if_neg (fun x => q (k.2 x))]
theorem lt_of_ln_lt {a b : Nat} (h : ln a < ln b) : a < b := by
  apply Decidable.byContradiction
  intro k
  have := ln_mono (show b ≤ a by omega)
  omega
theorem sgn_ln {a b : Nat} (h : ln a ≠ ln b) : sgn (ln a) (ln b) = sgn a b := by
  rcases Nat.lt_or_gt_of_ne h with k | k
  · rw [sgn_lt k, sgn_lt (lt_of_ln_lt k)]
  · rw [sgn_gt k, sgn_gt (lt_of_ln_lt k)]
theorem lt_of_top {P x y s t r : Nat} (hs : s < P) (h : x < y) : s + P * (x + B * r) < t + P * (y + B * r) := by
  have : P * (x + B * r) + P ≤ P * (y + B * r) := by
    rw [← Nat.mul_succ]
    exact Nat.mul_le_mul_left _ (by omega)
  omega
theorem sgn_top {a b k : Nat} (ha : k < (limbs a).length) (hb : k < (limbs b).length) (he : (limbs a).drop (k + 1) = (limbs b).drop (k + 1)) (hne : (limbs a)[k] ≠ (limbs b)[k]) :
    sgn (limbs a)[k] (limbs b)[k] = sgn a b := by
  have ea := val_split (limbs a) k (by omega)
  have eb := val_split (limbs b) k (by omega)
  rw [val_limbs, val_drop _ k ha] at ea
  rw [val_limbs, val_drop _ k hb, ← he] at eb
  have la := val_take_limbs_lt a k
  have lb := val_take_limbs_lt b k
  rcases Nat.lt_or_gt_of_ne hne with h | h
  · rw [sgn_lt h, sgn_lt]
    rw [ea, eb]
    exact lt_of_top la h
  · rw [sgn_gt h, sgn_gt]
    rw [ea, eb]
    exact lt_of_top lb h
theorem drop_step {xs ys : List Nat} {k : Nat} (hx : k < xs.length) (hy : k < ys.length) (h : xs[k] = ys[k]) (he : xs.drop (k + 1) = ys.drop (k + 1)) : xs.drop k = ys.drop k := by
  rw [List.drop_eq_getElem_cons hx, List.drop_eq_getElem_cons hy, h, he]
end Go.Proofs.Ythhphbaimpcjfaa
