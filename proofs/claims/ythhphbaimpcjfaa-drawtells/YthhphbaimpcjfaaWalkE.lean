/- The walks of sum, Add. -/
import Derived.Test.YthhphbaimpcjfaaRow
namespace Go.Proofs.Ythhphbaimpcjfaa
open Go.RowKit

theorem RetN.lim {r : Nat} {w : World} {e : Ending} {w' : World} (h : RetN r w e w') : ∃ A n c, e = .returned (.slice A n c) ∧ Lim w' A n c (limbs r) ∧ Below w.heap.size w w' := h
/-- Refused: what is no natural. -/
def NoTwo (xs ys : List Nat) : Prop := ¬ (Nt xs ∧ Nt ys)
theorem rights_no {A A' : Option Addr} {n c n' c' : Nat} {xs ys : List Nat} {w : World} (ha : Lim w A n c xs) (hb : Lim w A' n' c' ys) (h : NoTwo xs ys) :
    (∃ _ : Nt xs, (∀ w' : World, w = w' → Calls Try.prog 26 #[.slice A n c] w' fun e w'' => e = .returned (.bool true) ∧ w' = w'') ∧ (∀ w' : World, w = w' → Calls Try.prog 26 #[.slice A' n' c'] w' fun e w'' => e = .returned (.bool false) ∧ w' = w'')) ∨
    (∀ w' : World, w = w' → Calls Try.prog 26 #[.slice A n c] w' fun e w'' => e = .returned (.bool false) ∧ w' = w'') := by
  by_cases ka : Nt xs
  · refine Or.inl ⟨ka, ?_, ?_⟩
    · rintro w' rfl
      exact right_yes (ka.eq ha.lo ▸ ha) (by unfold ln; rw [← ka.eq ha.lo]; exact ka.1)
    · rintro w' rfl
      exact right_no hb (fun x => h ⟨ka, x⟩)
  · refine Or.inr ?_
    rintro w' rfl
    exact right_no ha ka
end Go.Proofs.Ythhphbaimpcjfaa
