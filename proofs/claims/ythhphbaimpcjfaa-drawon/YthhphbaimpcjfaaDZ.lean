/- Below and BelowNat of the program, and of the document: all of it. -/
import Derived.Test.YthhphbaimpcjfaaDRC
namespace Go.Proofs.Ythhphbaimpcjfaa
open Go.RowKit
set_option linter.unusedVariables false
set_option linter.unusedSimpArgs false
/-- A draw below limbs. -/
noncomputable def ansN (W : List Nat) (p : Int) (xs : List Nat) : Nat × Int × Int := if ntB xs = true then ans W p (val xs) else (0, p, 1)
theorem ansN_yes {W : List Nat} {p : Int} {xs : List Nat} (h : Nt xs) : ansN W p xs = ans W p (val xs) := by unfold ansN; rw [if_pos (ntB_yes h)]
theorem ansN_no {W : List Nat} {p : Int} {xs : List Nat} (h : ¬ Nt xs) : ansN W p xs = (0, p, 1) := by unfold ansN; rw [if_neg (by rw [ntB_no h]; decide)]
theorem belowNat_any {A Ab : Option Addr} {n c nb cb : Nat} {p : Int} {W0 xs : List Nat} {w : World} (HW : Wl w A n c W0) (HB : Lim w Ab nb cb xs) :
    Calls Try.prog 14 #[wds A n c p, .slice Ab nb cb] w fun e w' => RetB A n c (ansN W0 p xs) w e w' := by
  by_cases h : Nt xs
  · rw [ansN_yes h]; exact belowNat_yes HW HB h
  · rw [ansN_no h]; exact belowNat_arg (Nat.le_trans HW.cap HW.top) HB h
theorem refBelow_any {A Ab : Option Addr} {n c nb cb : Nat} {p : Int} {W0 xs : List Nat} {w : World} (HW : Wl w A n c W0) (HB : Lim w Ab nb cb xs) :
    Calls Try.prog 11 #[wds A n c p, .slice Ab nb cb] w fun e w' => RetB A n c (ansN W0 p xs) w e w' := by
  have hn : n ≤ 9223372036854775807 := Nat.le_trans HW.cap HW.top
  by_cases h : Nt xs
  · rw [ansN_yes h]
    obtain ⟨HL, ld⟩ := nt_lim HB h
    by_cases h0 : val xs = 0
    · have e : nb = 0 := by
        have := HL.len
        rw [h0, limbs_zero] at this
        exact this.symm
      rw [h0, ans_zero]
      exact refBelow_zero hn HB e
    · have hnb : nb ≠ 0 := by
        intro e
        subst e
        have := List.eq_nil_of_length_eq_zero HB.len
        subst this
        exact h0 rfl
      by_cases hp : 0 ≤ p
      · by_cases hq : p ≤ (n : Int)
        · obtain ⟨i, rfl⟩ := Int.eq_ofNat_of_zero_le hp
          exact refBelow_many HW HL ld h0 (by omega)
        · rw [ans_arg h0 (by rw [HW.len]; omega)]
          exact refBelow_high hn HB h hnb (by omega)
      · rw [ans_arg h0 (by rw [HW.len]; omega)]
        exact refBelow_low hn HB h hnb (by omega)
  · rw [ansN_no h]; exact refBelow_arg hn HB h
theorem ansN_limbs {W : List Nat} {p : Int} {d : Nat} (h : ln d ≤ 64) : ansN W p (limbs d) = ans W p d := by rw [ansN_yes (Nt.of h), val_limbs]
theorem ln_word {d : Nat} (h : d < 18446744073709551616) : ln d ≤ 64 := by
  refine Nat.le_trans (ln_le (k := 2) ?_) (by decide)
  rw [B_eq]
  exact h
/-- A draw's number is below the bound. -/
theorem ans_lt (W : List Nat) (p : Int) (d : Nat) : (ans W p d).1 < d ∨ (ans W p d).1 = 0 := by
  unfold ans
  split
  · exact Or.inr rfl
  · split
    · exact Or.inr rfl
    · split
      · rename_i v q e
        exact Or.inl (tries_some e).2.2.1
      · exact Or.inr rfl
theorem ansN_lt64 (W : List Nat) (p : Int) (xs : List Nat) (lo : Lo xs) : ln (ansN W p xs).1 ≤ 64 := by
  by_cases h : Nt xs
  · rw [ansN_yes h]
    have ld : ln (val xs) ≤ 64 := by
      unfold ln
      rw [← h.eq lo]
      exact h.1
    rcases ans_lt W p (val xs) with k | k
    · exact Nat.le_trans (ln_mono (Nat.le_of_lt k)) ld
    · rw [k, ln_zero]; decide
  · rw [ansN_no h, ln_zero]; decide
end Go.Proofs.Ythhphbaimpcjfaa
