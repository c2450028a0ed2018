/- Pairs of few limbs, in plain numbers. -/
import Derived.Test.YtnacokogihanoaaDoorRBase
import Derived.Test.YtnacokogihanoaaDoorRNum
namespace Go.Proofs.YtnacokogihanoaaDoor
open Go.RowKit
set_option linter.unusedVariables false
theorem few_num {A A' : Option Addr} {n c n' c' p q : Nat} {w : World} (h : Lim w A n c (limbs p)) (h' : Lim w A' n' c' (limbs q)) (f : F6 p q) : It.Few ⟨A, n, c, limbs p, A', n', c', limbs q⟩ := by
  have a := h.len; have b := h'.len
  rw [limbs_length] at a b
  have := f.lp; have := f.lq
  exact ⟨show n ≤ 6 by omega, show n' ≤ 6 by omega, f.f.fr⟩
theorem num_few {A A' : Option Addr} {n c n' c' : Nat} {xs ys : List Nat} {w : World} (h : Lim w A n c xs) (h' : Lim w A' n' c' ys) (f : It.Few ⟨A, n, c, xs, A', n', c', ys⟩) : F6 (val xs) (val ys) ∧ xs = limbs (val xs) ∧ ys = limbs (val ys) := by
  obtain ⟨a, b, g⟩ := f
  have a : n ≤ 6 := a
  have b : n' ≤ 6 := b
  have g : Fr xs ys := g
  obtain ⟨k, e, e'⟩ := g.num h.lo h'.lo
  have a1 : ln (val xs) = xs.length := by rw [← limbs_length, ← e]
  have a2 : ln (val ys) = ys.length := by rw [← limbs_length, ← e']
  have := h.len; have := h'.len
  exact ⟨⟨k, by omega, by omega⟩, e, e'⟩
end Go.Proofs.YtnacokogihanoaaDoor
