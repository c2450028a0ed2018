/- CRC-32C in plain words: a step of one bit, of a byte, of a text; a step is linear and loses nothing. -/
import Derived.Laws.BitsAllLaws
import Derived.Lib.Hide
namespace Go.Proofs.Ytkghlijmlifmjaa

/-- The polynomial. -/
abbrev pol : BitVec 32 := 2197175160#32
/-- One bit. -/
def half (x : BitVec 32) : BitVec 32 := if x.getLsbD 0 then (x >>> 1) ^^^ pol else x >>> 1
theorem half_xor (x y : BitVec 32) : half (x ^^^ y) = half x ^^^ half y := by
  unfold half
  rw [BitVec.getLsbD_xor, BitVec.ushiftRight_xor_distrib]
  cases x.getLsbD 0 <;> cases y.getLsbD 0
  · rfl
  · simp only [Bool.false_xor, if_true, Bool.false_eq_true, if_false]; rw [BitVec.xor_assoc]
  · simp only [Bool.xor_false, if_true, Bool.false_eq_true, if_false]; rw [BitVec.xor_assoc, BitVec.xor_assoc, BitVec.xor_comm pol]
  · simp only [Bool.xor_self, if_true, Bool.false_eq_true, if_false]
    rw [BitVec.xor_assoc, ← BitVec.xor_assoc pol, BitVec.xor_comm pol, BitVec.xor_assoc, BitVec.xor_self, BitVec.xor_zero]
theorem half_zero : half 0#32 = 0#32 := by decide
theorem half_ne {x : BitVec 32} (h : half x = 0#32) : x = 0#32 := by
  unfold half at h
  cases hb : x.getLsbD 0 with
  | true =>
    rw [hb, if_pos rfl] at h
    have := congrArg (BitVec.getLsbD · 31) h
    simp at this
    exact absurd this (by decide)
  | false =>
    rw [hb] at h
    simp only [Bool.false_eq_true, if_false] at h
    have e := congrArg BitVec.toNat h
    rw [BitVec.toNat_ushiftRight, Nat.shiftRight_eq_div_pow] at e
    have b : x.toNat % 2 = 0 := by
      have := hb
      rw [BitVec.getLsbD] at this
      simp [Nat.testBit_zero] at this
      omega
    apply BitVec.eq_of_toNat_eq
    simp only [BitVec.toNat_ofNat] at e ⊢
    omega
/-- So many bits. -/
def halfN : Nat → BitVec 32 → BitVec 32
  | 0, x => x
  | n + 1, x => halfN n (half x)
theorem halfN_xor : ∀ (n : Nat) (x y : BitVec 32), halfN n (x ^^^ y) = halfN n x ^^^ halfN n y
  | 0, _, _ => rfl
  | n + 1, x, y => by rw [halfN, half_xor, halfN_xor n, halfN, halfN]
theorem halfN_zero : ∀ n : Nat, halfN n 0#32 = 0#32
  | 0 => rfl
  | n + 1 => by rw [halfN, half_zero, halfN_zero n]
theorem halfN_ne : ∀ {n : Nat} {x : BitVec 32}, halfN n x = 0#32 → x = 0#32
  | 0, _, h => h
  | n + 1, _, h => half_ne (halfN_ne (n := n) h)
theorem halfN_inj {n : Nat} {x y : BitVec 32} (h : halfN n x = halfN n y) : x = y := by
  have e : halfN n (x ^^^ y) = 0#32 := by rw [halfN_xor, h, BitVec.xor_self]
  have := congrArg (· ^^^ y) (halfN_ne e)
  simpa [BitVec.xor_assoc] using this
theorem halfN_add : ∀ (a b : Nat) (x : BitVec 32), halfN (a + b) x = halfN b (halfN a x)
  | 0, b, x => by rw [Nat.zero_add]; rfl
  | a + 1, b, x => by rw [Nat.add_right_comm, halfN, halfN_add a b, halfN]
theorem half_shl {y : BitVec 32} (h : y.toNat < 2147483648) : half (y <<< 1) = y := by
  unfold half
  have b : (y <<< 1).getLsbD 0 = false := by simp
  rw [b]
  simp only [Bool.false_eq_true, if_false]
  apply BitVec.eq_of_toNat_eq
  rw [BitVec.toNat_ushiftRight, BitVec.toNat_shiftLeft, Nat.shiftRight_eq_div_pow, Nat.shiftLeft_eq]
  omega
theorem halfN_shl : ∀ (k : Nat) (y : BitVec 32), y.toNat * 2 ^ k < 4294967296 → halfN k (y <<< k) = y
  | 0, y, _ => by rw [halfN, BitVec.shiftLeft_zero]
  | k + 1, y, h => by
    have e : y <<< (k + 1) = (y <<< k) <<< 1 := by rw [← BitVec.shiftLeft_add]
    have hk : y.toNat * 2 ^ k < 2147483648 := by rw [Nat.pow_succ, ← Nat.mul_assoc] at h; omega
    have hs : (y <<< k).toNat < 2147483648 := by
      rw [BitVec.toNat_shiftLeft, Nat.shiftLeft_eq]
      exact Nat.lt_of_le_of_lt (Nat.mod_le _ _) hk
    rw [halfN, e, half_shl hs, halfN_shl k y (by omega)]
/-- A bit as a number. -/
def bit (b : Bool) : BitVec 32 := if b then 1#32 else 0#32
theorem bit_xor (a b : Bool) : bit (a ^^ b) = bit a ^^^ bit b := by cases a <;> cases b <;> decide
/-- Bits, one behind the other. -/
def run : BitVec 32 → List Bool → BitVec 32
  | x, [] => x
  | x, b :: r => run (half (x ^^^ bit b)) r
theorem run_append : ∀ (l m : List Bool) (x : BitVec 32), run x (l ++ m) = run (run x l) m
  | [], _, _ => rfl
  | _ :: l, m, _ => run_append l m _
theorem run_zeros : ∀ (n : Nat) (x : BitVec 32), run x (List.replicate n false) = halfN n x
  | 0, _ => rfl
  | n + 1, x => by
    rw [List.replicate_succ, run, run_zeros n, halfN, show bit false = 0#32 from rfl, BitVec.xor_zero]
theorem run_xor : ∀ (l m : List Bool) (x y : BitVec 32), l.length = m.length → run (x ^^^ y) (List.zipWith (· ^^ ·) l m) = run x l ^^^ run y m
  | [], [], _, _, _ => rfl
  | [], _ :: _, _, _, h => by simp at h
  | _ :: _, [], _, _, h => by simp at h
  | a :: l, b :: m, x, y, h => by
    rw [List.zipWith_cons_cons, run, run, run, ← run_xor l m _ _ (by simpa using h), ← half_xor, bit_xor]
    congr 2
    rw [BitVec.xor_assoc, BitVec.xor_assoc, ← BitVec.xor_assoc y, BitVec.xor_comm y, BitVec.xor_assoc]
/-- Bits as a number, the lowest first. -/
def val : List Bool → BitVec 32
  | [] => 0#32
  | b :: r => bit b ^^^ (val r <<< 1)
theorem val_toNat : ∀ (l : List Bool), l.length ≤ 32 → (val l).toNat < 2 ^ l.length
  | [], _ => by decide
  | b :: r, h => by
    have ih := val_toNat r (by simp at h; omega)
    have hl : r.length ≤ 31 := by simp at h; omega
    have hs : (val r <<< 1).toNat < 2 ^ (r.length + 1) := by
      rw [BitVec.toNat_shiftLeft, Nat.shiftLeft_eq]
      refine Nat.lt_of_le_of_lt (Nat.mod_le _ _) ?_
      rw [Nat.pow_succ]; omega
    have hb : (bit b).toNat < 2 ^ (r.length + 1) := by
      have : 2 ^ 1 ≤ 2 ^ (r.length + 1) := Nat.pow_le_pow_right (by decide) (by omega)
      cases b <;> simp [bit] <;> omega
    rw [val, BitVec.toNat_xor, List.length_cons]
    exact Nat.xor_lt_two_pow hb hs
theorem run_val : ∀ (l : List Bool) (x : BitVec 32), l.length ≤ 32 → run x l = halfN l.length (x ^^^ val l)
  | [], x, _ => by rw [run, val, BitVec.xor_zero]; rfl
  | b :: r, x, h => by
    have hl : r.length ≤ 31 := by simp at h; omega
    have hv : (val r).toNat < 2147483648 := Nat.lt_of_lt_of_le (val_toNat r (by omega)) (Nat.pow_le_pow_right (n := 2) (by decide) hl)
    rw [run, run_val r _ (by omega), List.length_cons, halfN, val, ← BitVec.xor_assoc, half_xor (x ^^^ bit b), half_shl hv]
end Go.Proofs.Ytkghlijmlifmjaa
