/- Plain arithmetic: the decimal digits of a number. -/
namespace Go.Proofs.YtnacokogihanoaaDoor.Wd
/-- A digit. -/
def dig (d : Nat) : UInt8 := UInt8.ofNat (48 + d)
/-- The digits of a number below ten to the f; none of 0. -/
def textF : Nat → Nat → List UInt8
  | 0, _ => []
  | f + 1, m => if m = 0 then [] else textF f (m / 10) ++ [dig (m % 10)]
/-- The text of a number below ten to the 39. -/
@[irreducible] def text (n : Nat) : List UInt8 := textF 38 (n / 10) ++ [dig (n % 10)]
theorem text_eq (n : Nat) : text n = textF 38 (n / 10) ++ [dig (n % 10)] := by unfold text; rfl
theorem textF_zero (f : Nat) : textF f 0 = [] := by cases f <;> simp [textF]
theorem textF_succ {f m : Nat} (h : m ≠ 0) : textF (f + 1) m = textF f (m / 10) ++ [dig (m % 10)] := by rw [textF, if_neg h]
theorem dig_toNat {d : Nat} (h : d < 10) : ((dig d).toNat : Int) = 48 + (d : Int) := by
  unfold dig
  rw [UInt8.toNat_ofNat_of_lt' (by show 48 + d < 256; omega)]
  omega
theorem div_lt_ten {m j : Nat} (h : m < 10 ^ (j + 1)) : m / 10 < 10 ^ j := by
  refine (Nat.div_lt_iff_lt_mul (by decide)).2 ?_
  rw [Nat.pow_succ] at h; omega
end Go.Proofs.YtnacokogihanoaaDoor.Wd
