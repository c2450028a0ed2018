/- Words of 32 bits and bytes as the program has them. -/
import Derived.Test.YtkghlijmlifmjaaCBit
import Derived.Laws.BitsAllLaws
import Derived.WalkKit
import Derived.Lib.Hide
namespace Go.Proofs.Ytkghlijmlifmjaa

/-- A word as the program has it. -/
@[irreducible] def J (x : BitVec 32) : Int := (x.toNat : Int)
theorem J_eq (x : BitVec 32) : J x = (x.toNat : Int) := by unfold J; rfl
theorem J_nn (x : BitVec 32) : 0 ≤ J x := by rw [J_eq]; omega
theorem J_lt (x : BitVec 32) : J x < 4294967296 := by rw [J_eq]; have := x.isLt; omega
theorem J_inj {x y : BitVec 32} (h : J x = J y) : x = y := by
  rw [J_eq, J_eq] at h; apply BitVec.eq_of_toNat_eq; omega
theorem J_iff (x y : BitVec 32) : (J x = J y) ↔ x = y := ⟨J_inj, fun h => by rw [h]⟩
theorem J_of {n : Int} (h0 : 0 ≤ n) (h1 : n < 4294967296) : ∃ x, n = J x := by
  refine ⟨BitVec.ofNat 32 n.toNat, ?_⟩
  rw [J_eq, BitVec.toNat_ofNat, Nat.mod_eq_of_lt (by omega)]; omega
theorem kJ (n : Nat) (h : n < 4294967296) : ((n : Nat) : Int) = J (BitVec.ofNat 32 n) := by
  rw [J_eq, BitVec.toNat_ofNat, Nat.mod_eq_of_lt (by omega)]
theorem kJ0 : (0 : Int) = J 0#32 := kJ 0 (by decide)
theorem kJ1 : (1 : Int) = J 1#32 := kJ 1 (by decide)
theorem kJp : (2197175160 : Int) = J pol := kJ 2197175160 (by decide)
theorem xor_J (x y : BitVec 32) : bits .xor .u32 (J x) (J y) = J (x ^^^ y) := by
  rw [J_eq, J_eq, J_eq, u32_xor_nat _ _ (by have := x.isLt; omega) (by have := y.isLt; omega), BitVec.toNat_xor]
theorem and_J (x y : BitVec 32) : bits .and .u32 (J x) (J y) = J (x &&& y) := by
  rw [J_eq, J_eq, J_eq, u32_and_nat _ _ (by have := x.isLt; omega) (by have := y.isLt; omega), BitVec.toNat_and]
theorem shr_J (x : BitVec 32) (k : Nat) : J x / ((2 ^ k : Nat) : Int) = J (x >>> k) := by
  rw [J_eq, J_eq, BitVec.toNat_ushiftRight, Nat.shiftRight_eq_div_pow]; omega
theorem shr1_J (x : BitVec 32) : J x / (2 : Int) = J (x >>> 1) := by have := shr_J x 1; simpa using this
theorem shr8_J (x : BitVec 32) : J x / (256 : Int) = J (x >>> 8) := by have := shr_J x 8; simpa using this
theorem not_J (x : BitVec 32) : 4294967295 - J x = J (~~~ x) := by
  rw [J_eq, J_eq, BitVec.toNat_not]; have := x.isLt; omega
theorem cnot_J (x : BitVec 32) : bits BinOp.xor IntKind.u32 IntKind.u32.max (J x) = J (~~~ x) := by
  rw [show IntKind.u32.max = J 4294967295#32 from (kJ 4294967295 (by decide)), xor_J, ← BitVec.allOnes_xor]; rfl
theorem neg_J (x : BitVec 32) : IntKind.u32.wrap (- J x) = J (- x) := by
  rw [J_eq, J_eq, IntKind.wrap_u32', BitVec.toNat_neg]; have := x.isLt; omega
theorem getLsbD_zero (x : BitVec 32) : x.getLsbD 0 = decide (x.toNat % 2 = 1) := by
  rw [BitVec.getLsbD, Nat.testBit_zero]
theorem and_one (x : BitVec 32) : x &&& 1#32 = if x.getLsbD 0 then 1#32 else 0#32 := by
  apply BitVec.eq_of_toNat_eq
  rw [BitVec.toNat_and, getLsbD_zero, BitVec.toNat_ofNat, show 1 % 2 ^ 32 = 1 from rfl, Nat.and_one_is_mod]
  by_cases h : x.toNat % 2 = 1
  · rw [decide_eq_true h, if_pos rfl]; simp [h]
  · rw [decide_eq_false h, if_neg (by decide)]; simp; omega
/-- A bit, by the number of ones. -/
theorem half_and (x : BitVec 32) : half x = (x >>> 1) ^^^ (pol &&& - (x &&& 1#32)) := by
  unfold half
  rw [and_one]
  cases x.getLsbD 0
  · rw [if_neg (by decide), if_neg (by decide), show pol &&& - 0#32 = 0#32 by decide, BitVec.xor_zero]
  · rw [if_pos rfl, if_pos rfl, show pol &&& - 1#32 = pol by decide]
theorem halfN_snoc : ∀ (n : Nat) (x : BitVec 32), halfN (n + 1) x = half (halfN n x)
  | 0, _ => rfl
  | n + 1, x => by rw [halfN, halfN_snoc n (half x)]; rfl
theorem half_J (r : BitVec 32) : bits BinOp.xor IntKind.u32 (J r / 2) (bits BinOp.and IntKind.u32 2197175160 (-bits BinOp.and IntKind.u32 (J r) 1 % 4294967296)) = J (half r) := by
  rw [← IntKind.wrap_u32', kJ1, and_J, neg_J, kJp, and_J, shr1_J, xor_J, half_and]
theorem half_odd (r : BitVec 32) (h : J r % 2 = 1) : bits BinOp.xor IntKind.u32 (J r / 2) 2197175160 = J (half r) := by
  rw [kJp, shr1_J, xor_J]
  unfold half
  rw [getLsbD_zero, if_pos (decide_eq_true (by rw [J_eq] at h; omega))]
theorem half_even (r : BitVec 32) (h : ¬ J r % 2 = 1) : J r / 2 = J (half r) := by
  rw [shr1_J]
  unfold half
  rw [getLsbD_zero, if_neg (by rw [decide_eq_true_iff]; rw [J_eq] at h; omega)]
theorem tdiv_J (r : BitVec 32) : (J r).tdiv 2 = J (r >>> 1) := by
  rw [Int.tdiv_eq_ediv_of_nonneg (J_nn r), shr1_J]
theorem mod_J (r : BitVec 32) : J r % 4294967296 = J r := Int.emod_eq_of_lt (J_nn r) (J_lt r)
theorem tmod_J (r : BitVec 32) : (J r).tmod 2 = J r % 2 := Int.tmod_eq_emod_of_nonneg (J_nn r)
theorem odd_J (r : BitVec 32) (h : (J r).tmod 2 = 1) : bits BinOp.xor IntKind.u32 (J (r >>> 1)) 2197175160 = J (half r) := by
  rw [← shr1_J, half_odd r (by rw [← tmod_J]; exact h)]
theorem even_J (r : BitVec 32) (h : (J r).tmod 2 = 0) : J (r >>> 1) = J (half r) := by
  rw [← shr1_J, half_even r (by rw [← tmod_J, h]; decide)]
theorem tm_cases (r : BitVec 32) : (J r).tmod 2 = 1 ∨ (J r).tmod 2 = 0 := by rw [tmod_J]; have := J_nn r; omega
/-- The lowest byte. -/
def lo (x : BitVec 32) : UInt8 := UInt8.ofNat x.toNat
theorem lo_toNat (x : BitVec 32) : (lo x).toNat = x.toNat % 256 := by unfold lo; rw [UInt8.toNat_ofNat']
theorem wrap8_J (x : BitVec 32) : IntKind.u8.wrap (J x) = ((lo x).toNat : Int) := by
  rw [J_eq, IntKind.wrap_u8', lo_toNat]; omega
theorem mod8_J (x : BitVec 32) : J x % 256 = ((lo x).toNat : Int) := by
  rw [J_eq, lo_toNat]; omega
theorem xor_8 (a b : UInt8) : bits .xor .u8 (a.toNat : Int) (b.toNat : Int) = ((a ^^^ b).toNat : Int) := by
  rw [u8_xor_nat _ _ a.toNat_lt b.toNat_lt, UInt8.toNat_xor]
/-- A byte as a word. -/
@[irreducible] def w8 (b : UInt8) : BitVec 32 := BitVec.ofNat 32 b.toNat
theorem w8_eq (b : UInt8) : w8 b = BitVec.ofNat 32 b.toNat := by unfold w8; rfl
theorem J_w8 (b : UInt8) : J (w8 b) = (b.toNat : Int) := by
  have := b.toNat_lt
  rw [w8_eq, ← kJ _ (by omega)]
theorem wrap32_8 (b : UInt8) : IntKind.u32.wrap (b.toNat : Int) = J (w8 b) := by
  have := b.toNat_lt
  rw [J_w8, IntKind.wrap_u32']; omega
theorem wrap64_8 (b : UInt8) : IntKind.i64.wrap (b.toNat : Int) = (b.toNat : Int) := by
  have := b.toNat_lt
  rw [IntKind.wrap_i64]; omega
theorem shr8_xor (x : BitVec 32) (b : UInt8) : (x ^^^ w8 b) >>> 8 = x >>> 8 := by
  rw [BitVec.ushiftRight_xor_distrib, w8_eq]
  have : (BitVec.ofNat 32 b.toNat) >>> 8 = 0#32 := by
    apply BitVec.eq_of_toNat_eq
    have := b.toNat_lt
    rw [BitVec.toNat_ushiftRight, Nat.shiftRight_eq_div_pow, BitVec.toNat_ofNat, Nat.mod_eq_of_lt (by omega), Nat.div_eq_of_lt (by omega)]; rfl
  rw [this, BitVec.xor_zero]
theorem low_and (x : BitVec 32) : x &&& 255#32 = w8 (lo x) := by
  apply BitVec.eq_of_toNat_eq
  have h := (lo x).toNat_lt
  rw [w8_eq, BitVec.toNat_and, BitVec.toNat_ofNat, BitVec.toNat_ofNat, Nat.mod_eq_of_lt (a := (lo x).toNat) (by omega), lo_toNat, show 255 % 2 ^ 32 = 2 ^ 8 - 1 from rfl, Nat.and_two_pow_sub_one_eq_mod]
theorem lo_xor (x : BitVec 32) (b : UInt8) : lo (x ^^^ w8 b) = lo x ^^^ b := by
  apply UInt8.toNat_inj.1
  have hb := b.toNat_lt
  rw [lo_toNat, BitVec.toNat_xor, UInt8.toNat_xor, lo_toNat, w8_eq, BitVec.toNat_ofNat, Nat.mod_eq_of_lt (a := b.toNat) (by omega)]
  rw [show (256 : Nat) = 2 ^ 8 from rfl, Nat.xor_mod_two_pow, Nat.mod_eq_of_lt (a := b.toNat) (by omega)]
/-- A byte, by the table. -/
theorem crcStep_table (x : BitVec 32) (b : UInt8) : crcStep x b = (x >>> 8) ^^^ crcAt (w8 (lo x ^^^ b)) := by
  unfold crcStep
  rw [← w8_eq, step_table, shr8_xor, low_and, lo_xor]
/-- The table's numbers. -/
@[irreducible] def tab (b : UInt8) : BitVec 32 := crcAt (w8 b)
theorem tab_eq (b : UInt8) : tab b = crcAt (w8 b) := by unfold tab; rfl
theorem crcStep_tab (x : BitVec 32) (b : UInt8) : crcStep x b = (x >>> 8) ^^^ tab (lo x ^^^ b) := by rw [tab_eq, crcStep_table]
theorem tab_xor (a b : UInt8) : tab (a ^^^ b) = tab a ^^^ tab b := by
  rw [tab_eq, tab_eq, tab_eq, ← crcAt_xor, w8_eq, w8_eq, w8_eq, ofNat_xor8]
theorem tab_zero : tab 0 = 0#32 := by rw [tab_eq, w8_eq]; exact crcAt_zero
end Go.Proofs.Ytkghlijmlifmjaa
