/- Texts as lists of bytes, their numbers, the hash in plain words. -/
import Derived.Test.YtkghlijmlifmjaaSNum
import Derived.Laws.Strings2
namespace Go.Proofs.Ytkghlijmlifmjaa

/-- The bytes of a text; the text of bytes. -/
abbrev L (s : ByteArray) : List UInt8 := s.data.toList
abbrev bs (l : List UInt8) : ByteArray := ⟨l.toArray⟩
theorem L_bs (l : List UInt8) : L (bs l) = l := rfl
theorem bs_L (s : ByteArray) : bs (L s) = s := by cases s; simp
theorem L_len (s : ByteArray) : (L s).length = s.size := by cases s; simp [ByteArray.size]
theorem bs_size (l : List UInt8) : (bs l).size = l.length := by simp [ByteArray.size]
theorem L_ext (s : ByteArray) (a b : Nat) : L (s.extract a b) = ((L s).drop a).take (b - a) := by
  obtain ⟨l, rfl⟩ : ∃ l, s = bs l := ⟨L s, (bs_L s).symm⟩
  rw [ByteArray.extract_mk]
theorem L_take (s : ByteArray) (k : Nat) : L (s.extract 0 k) = (L s).take k := by rw [L_ext]; simp
theorem L_drop (s : ByteArray) (k : Nat) : L (s.extract k s.size) = (L s).drop k := by
  rw [L_ext, List.take_of_length_le (by rw [List.length_drop, L_len]; exact Nat.le_refl _)]
/-- The number of bytes, the lowest first. -/
def lnum : List UInt8 → Nat
  | [] => 0
  | b :: r => b.toNat + 256 * lnum r
theorem lnum_lt : ∀ l : List UInt8, lnum l < 2 ^ (8 * l.length)
  | [] => by simp [lnum]
  | b :: r => by
    have := lnum_lt r
    have h := b.toNat_lt
    simp only [lnum, List.length_cons, Nat.mul_add, Nat.pow_add]
    omega
theorem lnum_snoc : ∀ (l : List UInt8) (b : UInt8), lnum (l ++ [b]) = lnum l + 2 ^ (8 * l.length) * b.toNat
  | [], b => by simp [lnum]
  | a :: r, b => by
    simp only [List.cons_append, lnum, lnum_snoc r b, List.length_cons, Nat.mul_add, Nat.pow_add]
    rw [← Nat.add_assoc, Nat.mul_comm (2 ^ (8 * r.length)) (2 ^ (8 * 1)), Nat.mul_assoc]
/-- .. as a word. -/
@[irreducible] def num (l : List UInt8) : BitVec 64 := BitVec.ofNat 64 (lnum l)
theorem num_nil : num [] = 0#64 := by unfold num; rfl
theorem num_toNat {l : List UInt8} (h : l.length ≤ 8) : (num l).toNat = lnum l := by
  unfold num
  rw [BitVec.toNat_ofNat]
  exact Nat.mod_eq_of_lt (Nat.lt_of_lt_of_le (lnum_lt l) (Nat.pow_le_pow_right (by decide) (by omega)))
theorem num_snoc {l : List UInt8} (b : UInt8) (h : l.length < 8) : num (l ++ [b]) = num l ||| BitVec.ofNat 64 b.toNat <<< (8 * l.length) := by
  apply BitVec.eq_of_toNat_eq
  have hb := b.toNat_lt
  have hp : 2 ^ (8 * l.length) * 256 ≤ 2 ^ 64 := by
    rw [show 256 = 2 ^ 8 from rfl, ← Nat.pow_add]; exact Nat.pow_le_pow_right (by decide) (by omega)
  have hm : b.toNat * 2 ^ (8 * l.length) < 2 ^ 64 := by
    have : 2 ^ (8 * l.length) * b.toNat ≤ 2 ^ (8 * l.length) * 255 := Nat.mul_le_mul_left _ (by omega)
    have h1 : 0 < 2 ^ (8 * l.length) := Nat.pow_pos (by decide)
    rw [Nat.mul_comm]; omega
  rw [num_toNat (by simp; omega), BitVec.toNat_or, num_toNat (by omega), BitVec.toNat_shiftLeft, BitVec.toNat_ofNat, Nat.mod_eq_of_lt (a := b.toNat) (by omega), Nat.shiftLeft_eq, Nat.mod_eq_of_lt hm, lnum_snoc, Nat.or_comm, Nat.mul_comm b.toNat, ← Nat.two_pow_add_eq_or_of_lt (lnum_lt l), Nat.add_comm]
theorem wrapByte (b : UInt8) : IntKind.u64.wrap (b.toNat : Int) = I (BitVec.ofNat 64 b.toNat) := by
  have := b.toNat_lt
  rw [← kI _ (by omega), IntKind.wrap_u64]; omega
theorem shl2 (x : BitVec 64) (k : Nat) : IntKind.u64.wrap (I x * 2 ^ k) = I (x <<< k) := by
  rw [← shl_I, Int.natCast_pow]; rfl
theorem orByte (r : BitVec 64) (b : UInt8) (k : Nat) : bits BinOp.or IntKind.u64 (I r) (IntKind.u64.wrap (IntKind.u64.wrap (b.toNat : Int) * 2 ^ k)) = I (r ||| BitVec.ofNat 64 b.toNat <<< k) := by
  rw [wrapByte, shl2, or_I]
/-- Eights, so many. -/
def eightsN : Nat → V4 → List UInt8 → V4
  | 0, v, _ => v
  | n + 1, v, l => eightsN n (take8 v (num (l.take 8))) (l.drop 8)
theorem eightsN_snoc : ∀ (n : Nat) (v : V4) (l : List UInt8), eightsN (n + 1) v l = take8 (eightsN n v l) (num ((l.drop (8 * n)).take 8))
  | 0, v, l => by simp [eightsN]
  | n + 1, v, l => by
    rw [eightsN, eightsN_snoc n, eightsN, List.drop_drop]
    rw [show 8 + 8 * n = 8 * (n + 1) by omega]
/-- All whole eights; the bytes behind. -/
def eights (v : V4) (l : List UInt8) : V4 := eightsN (l.length / 8) v l
def rest (l : List UInt8) : List UInt8 := l.drop (8 * (l.length / 8))
theorem rest_len (l : List UInt8) : (rest l).length = l.length % 8 := by unfold rest; simp; omega
/-- What is behind the eights, with how many there were. -/
def lastn (t : List UInt8) (n : Nat) : BitVec 64 := num t ||| BitVec.ofNat 64 n <<< 56
/-- The hash. -/
def hash (p q : BitVec 64) (l : List UInt8) : BitVec 64 := finish (eights (start p q) l) (lastn (rest l) l.length)
end Go.Proofs.Ytkghlijmlifmjaa
