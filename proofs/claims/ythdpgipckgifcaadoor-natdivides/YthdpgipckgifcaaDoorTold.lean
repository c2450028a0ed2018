/- The walk of told. -/
import Derived.Test.YthdpgipckgifcaaDoorWalkU
namespace Go.Proofs.YthdpgipckgifcaaDoor
open Go.RowKit
set_option linter.unusedVariables false
set_option linter.unusedSimpArgs false
set_option maxRecDepth 100000 in
theorem told_no (A A' : Option Addr) (c n' c' : Nat) (w : World) : Calls Tryd.prog 18 #[.slice A 0 c, .int .i64 1, .bool false, .slice A' n' c'] w fun e w' => e = .returned (.bool true) ∧ w = w' := by
  go_enter Tryd.func18, Tryd.ntmps18
  go_wp2
  go_ret
  exact ⟨rfl, rfl⟩
set_option maxRecDepth 100000 in
theorem told_any {A A' : Option Addr} {n c n' c' r : Nat} {w : World} (h : Lim w A n c (limbs (fitN r))) (h' : Lim w A' n' c' (limbs r)) :
    Calls Tryd.prog 18 #[.slice A n c, .int .i64 (fitE r), .bool true, .slice A' n' c'] w fun e w' => e = .returned (.bool true) ∧ Below w.heap.size w w' := by
  have hl' := h'.len
  rw [limbs_length] at hl'
  by_cases k : ln r ≤ 64
  · rw [fitN_yes k] at h
    rw [fitE_yes k]
    have K := Lib.hid (same_bel h h')
    rw [sameB_yes] at K
    have h1 : ¬ (64 : Int) < (n' : Int) := by omega
    clear h h' hl' k
    go_enter Tryd.func18, Tryd.ntmps18
    go_wp2_with fail
    refine K.out.mono ?_
    rintro e w1 ⟨rfl, B1⟩
    go_wp2_with fail
    go_ret
    exact ⟨rfl, B1⟩
  · rw [fitN_no k] at h
    rw [fitE_no k]
    have hn := h.len
    rw [limbs_zero] at hn
    simp at hn
    subst hn
    have h1 : (64 : Int) < (n' : Int) := by omega
    clear h h' hl' k
    go_enter Tryd.func18, Tryd.ntmps18
    go_wp2_with fail
    go_ret
    exact ⟨rfl, Below.refl _ _⟩
end Go.Proofs.YthdpgipckgifcaaDoor
