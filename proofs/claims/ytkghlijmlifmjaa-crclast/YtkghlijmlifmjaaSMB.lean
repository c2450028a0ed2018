/- Blocks of two, four and six cells. -/
import Derived.Test.YtkghlijmlifmjaaSM
namespace Go.Proofs.Ytkghlijmlifmjaa
open Go.RowKit
theorem Box.six {w : World} {g : Nat} {a b c d e f : Value} (h : Box w g #[a, b, c, d, e, f]) : w.cell? ⟨g, 0, none⟩ = some a ∧ w.cell? ⟨g, 1, none⟩ = some b ∧ w.cell? ⟨g, 2, none⟩ = some c ∧ w.cell? ⟨g, 3, none⟩ = some d ∧ w.cell? ⟨g, 4, none⟩ = some e ∧ w.cell? ⟨g, 5, none⟩ = some f :=
  ⟨h.cell rfl, h.cell rfl, h.cell rfl, h.cell rfl, h.cell rfl, h.cell rfl⟩
theorem Box.two {w : World} {g : Nat} {a b : Value} (h : Box w g #[a, b]) : w.cell? ⟨g, 0, none⟩ = some a ∧ w.cell? ⟨g, 1, none⟩ = some b := ⟨h.cell rfl, h.cell rfl⟩
theorem Box.four {w : World} {g : Nat} {a b c d : Value} (h : Box w g #[a, b, c, d]) : w.cell? ⟨g, 0, none⟩ = some a ∧ w.cell? ⟨g, 1, none⟩ = some b ∧ w.cell? ⟨g, 2, none⟩ = some c ∧ w.cell? ⟨g, 3, none⟩ = some d :=
  ⟨h.cell rfl, h.cell rfl, h.cell rfl, h.cell rfl⟩
theorem Two.put6 {w W : World} {g r : Nat} {cs : Array Value} {z0 z1 z2 z3 z4 z5 : Value} (h : Two w g r cs #[z0, z1, z2, z3, z4, z5] W) (a b c d e f : Value) :
    Two w g r cs #[a, b, c, d, e, f] ((((((W.setCell ⟨r, 0, none⟩ a).setCell ⟨r, 1, none⟩ b).setCell ⟨r, 2, none⟩ c).setCell ⟨r, 3, none⟩ d).setCell ⟨r, 4, none⟩ e).setCell ⟨r, 5, none⟩ f) :=
  ((((((h.swap.set 0 a).set 1 b).set 2 c).set 3 d).set 4 e).set 5 f).swap
theorem One.put6 {w W : World} {r : Nat} {z0 z1 z2 z3 z4 z5 : Value} (h : One w r #[z0, z1, z2, z3, z4, z5] W) (a b c d e f : Value) :
    One w r #[a, b, c, d, e, f] ((((((W.setCell ⟨r, 0, none⟩ a).setCell ⟨r, 1, none⟩ b).setCell ⟨r, 2, none⟩ c).setCell ⟨r, 3, none⟩ d).setCell ⟨r, 4, none⟩ e).setCell ⟨r, 5, none⟩ f) :=
  (((((h.set 0 a).set 1 b).set 2 c).set 3 d).set 4 e).set 5 f
theorem One.two {w W : World} {g : Nat} {cs : Array Value} (h : One w g cs W) (ds : Array Value) (t : TypeId) : Two w g W.heap.size cs ds (W.alloc (.cells ds t)) :=
  ⟨h.bg.alloc _, Box.new _ _ _, by have := h.bg.lt; omega, h.hg, h.bl.size, below_al h.bl _⟩
end Go.Proofs.Ytkghlijmlifmjaa
