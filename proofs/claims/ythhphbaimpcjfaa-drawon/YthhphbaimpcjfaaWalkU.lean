/- Slices that lie there, and what of nat's texts is wanted by draw. -/
import Derived.Test.YthhphbaimpcjfaaWalkT
import Derived.Lib.SliceRun
namespace Go.Proofs.Ythhphbaimpcjfaa
open Go.RowKit
set_option linter.unusedVariables false
set_option linter.unusedSimpArgs false

/-- Slices that lie there, with their limbs. -/
def Lies : List (Option Addr × Nat × Nat × List Nat) → World → Prop
  | [], _ => True
  | (A, n, c, xs) :: r, w => Lim w A n c xs ∧ Lies r w
theorem Lies.next {w w' : World} (hb : Below w.heap.size w w') : ∀ {l : List (Option Addr × Nat × Nat × List Nat)}, Lies l w → Lies l w'
  | [], _ => trivial
  | (_, _, _, _) :: _, h => ⟨h.1.next hb, Lies.next hb h.2⟩
/-- .. and nothing that was there has turned. -/
structure Sts (w : World) (l : List (Option Addr × Nat × Nat × List Nat)) (wx : World) : Prop where
  lie : Lies l wx
  bl : Below w.heap.size w wx
theorem Sts.start (w : World) : Sts w [] w := ⟨trivial, Below.refl _ _⟩
theorem Sts.next {w : World} {l : List (Option Addr × Nat × Nat × List Nat)} {W w1 : World} (s : Sts w l W) (hb : Below W.heap.size W w1) : Sts w l w1 := ⟨s.lie.next hb, below_step s.bl hb⟩
theorem Sts.drewN {w : World} {l : List (Option Addr × Nat × Nat × List Nat)} {W : World} (s : Sts w l W) (m : Nat) : Sts w l (W.drewN m) := s.next (below_drewN (Below.refl _ _) m)
theorem Sts.drew {w : World} {l : List (Option Addr × Nat × Nat × List Nat)} {W : World} (s : Sts w l W) : Sts w l W.drew := s.next (Below.refl _ _).drew
theorem Sts.put {w : World} {l : List (Option Addr × Nat × Nat × List Nat)} {W : World} {A : Option Addr} {n c : Nat} {xs : List Nat} (s : Sts w l W) (h : Lim W A n c xs) : Sts w ((A, n, c, xs) :: l) W := ⟨⟨h, s.lie⟩, s.bl⟩

/-- A row that the call owns is a slice of limbs. -/
theorem own_lim {w : World} {base n : Nat} {v : Value} {xs : List Nat} (h : w.ownsRow base 48 1 v n (xs.map lv)) (lo : Lo xs) : ∃ A c, v = .slice A n c ∧ Lim w A n c xs := by
  have hl : xs.length = n := by have := h.1; simpa using this
  rcases h.2 with ⟨rfl, rfl⟩ | ⟨g, cap, cur, rfl, _, hb, h1, h2, h3, h4⟩
  · have e := List.eq_nil_of_length_eq_zero hl
    subst e
    exact ⟨none, 0, rfl, Lim.none_ _ _ _ (by omega)⟩
  · refine ⟨_, cap, rfl, hl, h1, h2, fun j hj => ⟨_, rfl, ?_⟩, lo⟩
    rw [add_lit, Nat.zero_add]
    have e : cur[j]? = some (lv xs[j]) := by
      have : (cur.toList.take (n * 1))[j]? = some (lv xs[j]) := by rw [h4]; simp [hj]
      rw [List.getElem?_take, if_pos (by omega)] at this
      simpa using this
    simp [World.cell?, hb, e]

theorem pow32 {s : Nat} (h : s ≤ 32) : 2 ^ s * 2 ^ (32 - s) = 4294967296 := by rw [← Nat.pow_add, Nat.add_sub_cancel' h]
end Go.Proofs.Ythhphbaimpcjfaa
