/- Regions that draw their order, make a natural and draw below it: what they leave. -/
import Derived.Test.YthhphbaimpcjfaaDO
namespace Go.Proofs.Ythhphbaimpcjfaa
open Go.RowKit
set_option linter.unusedVariables false
set_option linter.unusedSimpArgs false
/-- Behind such a region: a natural, and a new block of two cells. -/
def NewB (V : World) (v : Nat) (a b : Value) (s9 s10 : Value) (wx : World) : Prop := ∃ g A' n' c', s9 = .slice A' n' c' ∧ s10 = .pointer (some ⟨g, 0, none⟩) ∧ Lim wx A' n' c' (limbs v) ∧ Box wx g #[a, b] ∧ Below V.heap.size V wx
theorem newB_last {V z : World} {v : Nat} {a b : Value} {t : TypeId} {A' : Option Addr} {n' c' : Nat} (L : Lim z A' n' c' (limbs v)) (hb : Below V.heap.size V z) : NewB V v a b (.slice A' n' c') (.pointer (some ⟨z.heap.size, 0, none⟩)) (z.alloc (.cells #[a, b] t)) :=
  ⟨_, _, _, _, rfl, rfl, L.alloc _, Box.new z _ t, below_al hb _⟩
theorem newB_set {V z : World} {v g : Nat} {a b : Value} {A' A0 : Option Addr} {n' c' n0 c0 : Nat} {p0 : Int} (L : Lim z A' n' c' (limbs v)) (B0 : Box z g #[.slice A0 n0 c0, .int .i64 p0]) (hv : V.heap.size ≤ g) (hb : Below V.heap.size V z) :
    NewB V v a b (.slice A' n' c') (.pointer (some ⟨g, 0, none⟩)) ((z.setCell ⟨g, 0, none⟩ a).setCell ⟨g, 1, none⟩ b) := by
  have T : Turn z ((z.setCell ⟨g, 0, none⟩ a).setCell ⟨g, 1, none⟩ b) g := ((Turn.refl z g).setCell 0 a).setCell 1 b
  have L2 := turn_lim T L (fun ad q1 q2 => B0.no_limb_at L q2 q1)
  exact ⟨_, _, _, _, rfl, rfl, L2, (B0.set 0 a).set 1 b, below_set (below_set hb hv a) hv b⟩
theorem boxc {Y z : World} {a b : Value} {t : TypeId} (h : Below (Y.alloc (.cells #[a, b] t)).heap.size (Y.alloc (.cells #[a, b] t)) z) : Box z Y.heap.size #[a, b] ∧ Y.heap.size < z.heap.size := by
  have B := (Box.new Y #[a, b] t).next h
  exact ⟨B, B.lt⟩
theorem boxcd {Y z : World} {a b : Value} {t : TypeId} (h : Below (Y.alloc (.cells #[a, b] t)).drew.heap.size (Y.alloc (.cells #[a, b] t)).drew z) : Box z Y.heap.size #[a, b] ∧ Y.heap.size < z.heap.size :=
  boxc (below_step (Below.refl _ _).drew h)
theorem Box.two_ {w : World} {g : Nat} {a b : Value} (h : Box w g #[a, b]) : w.cell? ⟨g, 0, none⟩ = some a ∧ w.cell? ⟨g, 1, none⟩ = some b ∧ w.frozen? ⟨g, 0, none⟩ = false ∧ w.frozen? ⟨g, 1, none⟩ = false := ⟨h.cell rfl, h.cell rfl, h.melt 0, h.melt 1⟩
theorem ans_back (W : List Nat) (d : Nat) : (ans W 0 d).2.2 = 0 ∨ (ans W 0 d).2.1 = 0 := by
  unfold ans
  split
  · exact Or.inr rfl
  · split
    · exact Or.inr rfl
    · split
      · exact Or.inl rfl
      · exact Or.inr rfl
end Go.Proofs.Ythhphbaimpcjfaa
