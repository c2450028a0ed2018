/- For every list of limbs, every text and every number of 128 bits the law NatTexts answers true: what its walk needs; the walk itself is under way. -/
import Derived.Test.YtnacokogihanoaaDoorBase
import Derived.Test.YtnacokogihanoaaDoorNumL
import Derived.Test.YtnacokogihanoaaDoorRefRead
import Derived.Test.YtnacokogihanoaaDoorWalkZ
namespace Go.Proofs.YtnacokogihanoaaDoor.natTexts
open Go.ChangeShapes Go.WideShapes Go.ChangeAt Go.RowKit
open Go.Proofs.YtnacokogihanoaaDoor
set_option linter.unusedVariables false
set_option linter.unusedSimpArgs false

/-- Both readings give the same limbs and the same error. -/
theorem reads (s : ByteArray) (hs : s.size ≤ 9223372036854775807) : ∃ (ys : List Nat) (k : Int), (∀ w, Calls Tryd.prog 16 #[.string s] w fun e w' => ∃ A n c, e = .returned (.tuple #[.slice A n c, .int .i64 k]) ∧ Lim w' A n c ys ∧ Below w.heap.size w w') ∧
    (∀ w, Calls Tryd.prog 17 #[.string s] w fun e w' => ∃ A n c, e = .returned (.tuple #[.slice A n c, .int .i64 k]) ∧ Lim w' A n c ys ∧ Below w.heap.size w w') := by
  by_cases h : isT (L s)
  · refine ⟨limbs (fitN (rd (L s))), fitE (rd (L s)), fun w => read_yes s hs h w, fun w => (refRead_any s hs w).mono ?_⟩
    rintro e w' ⟨A, n, c, k, rfl, hb, ⟨_, l, rfl⟩ | ⟨h2, _⟩⟩
    · exact ⟨_, _, _, rfl, l, hb⟩
    · exact absurd h h2
  · refine ⟨[], 2, fun w => (read_no s hs h w).mono ?_, fun w => (refRead_any s hs w).mono ?_⟩
    · rintro e w' ⟨rfl, rfl⟩
      exact ⟨none, 0, 0, rfl, Lim.none_ _ _ _ (by omega), Below.refl _ _⟩
    · rintro e w' ⟨A, n, c, k, rfl, hb, ⟨h2, _⟩ | ⟨_, l, rfl⟩⟩
      · exact absurd h2 h
      · exact ⟨_, _, _, rfl, l, hb⟩
/-- The text of limbs, or none. -/
theorem texts {A : Option Addr} {n c : Nat} {xs : List Nat} {w : World} (h : Lim w A n c xs) (k : ¬ Nt xs) (W : World) (hb : Below w.heap.size w W) : Calls Tryd.prog 21 #[.slice A n c] W fun e w' => e = .returned (.string ⟨#[]⟩) ∧ Below W.heap.size W w' :=
  (text_none (h.next hb) k).mono fun _ _ ⟨a, b⟩ => ⟨a, by subst b; exact Below.refl _ _⟩

theorem lim_three (w : World) : Lim (w.alloc (.cells #[.int .u32 0, .int .u32 0, .int .u32 1] 37)) (some ⟨w.heap.size, 0, none⟩) 3 3 [0, 0, 1] :=
  (Row.new w [0, 0, 1] (.cons (by decide) (.cons (by decide) (.cons (by decide) .nil)))).lim (o := 0) (n := 3) (c := 3) (by simp) (by omega) (by omega)
theorem val_three : val [0, 0, 1] = 18446744073709551616 := by
  rw [val_cons, val_cons, val_cons, val_nil, B_eq]
theorem lim_small {w : World} {A : Option Addr} {n c x : Nat} (h : Lim w A n c (limbs x)) (hx : x < 18446744073709551616 * 18446744073709551616) : n ≤ 100000 := by
  rw [← h.len, limbs_length]
  exact Nat.le_trans (ln_le (k := 4) (by rw [B_eq]; omega)) (by decide)
theorem mul_w {W : World} {A A' : Option Addr} {n c c' x : Nat} (h1 : Lim W A n c (limbs x)) (hx : x < 18446744073709551616) (h2 : Lim W A' 3 c' [0, 0, 1]) : Calls Tryd.prog 20 #[.slice A n c, .slice A' 3 c'] W fun e w' => RetN (x * 18446744073709551616) W e w' := by
  have := refMul_any h1 h2 (lim_small h1 (by omega)) (by decide)
  rwa [val_limbs, val_three] at this
theorem add_w {W : World} {A A' : Option Addr} {n c n' c' h l : Nat} (h1 : Lim W A n c (limbs l)) (hl : l < 18446744073709551616) (h2 : Lim W A' n' c' (limbs (h * 18446744073709551616))) (hh : h < 18446744073709551616) : Calls Tryd.prog 18 #[.slice A n c, .slice A' n' c'] W fun e w' => RetN (h * 18446744073709551616 + l) W e w' := by
  have := refAdd_any h1 h2 (lim_small h1 (by omega)) (lim_small h2 (by omega))
  rwa [val_limbs, val_limbs, Nat.add_comm] at this
end Go.Proofs.YtnacokogihanoaaDoor.natTexts
