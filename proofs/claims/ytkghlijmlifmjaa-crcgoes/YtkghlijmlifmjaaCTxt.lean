/- CRC-32C of texts: bytes, the table, parts, three texts, the last four bytes, bursts. -/
import Derived.Test.YtkghlijmlifmjaaCNum
namespace Go.Proofs.Ytkghlijmlifmjaa

/-- The bits of a byte, the lowest first. -/
def bits8 (b : UInt8) : List Bool := (List.range 8).map b.toNat.testBit
theorem bits8_len (b : UInt8) : (bits8 b).length = 8 := by unfold bits8; simp
theorem val_bits8 (b : UInt8) : val (bits8 b) = BitVec.ofNat 32 b.toNat := by
  have h : ∀ n : Fin 256, val ((List.range 8).map n.val.testBit) = BitVec.ofNat 32 n.val := by decide +kernel
  exact h ⟨b.toNat, b.toNat_lt⟩
/-- A byte. -/
def crcStep (x : BitVec 32) (b : UInt8) : BitVec 32 := halfN 8 (x ^^^ BitVec.ofNat 32 b.toNat)
theorem crcStep_run (x : BitVec 32) (b : UInt8) : crcStep x b = run x (bits8 b) := by
  rw [run_val _ _ (by rw [bits8_len]; decide), bits8_len, val_bits8]; rfl
/-- A text. -/
def upd (x : BitVec 32) (l : List UInt8) : BitVec 32 := l.foldl crcStep x
theorem upd_nil (x : BitVec 32) : upd x [] = x := rfl
theorem upd_app (x : BitVec 32) (l m : List UInt8) : upd x (l ++ m) = upd (upd x l) m := List.foldl_append
theorem upd_snoc (x : BitVec 32) (l : List UInt8) (b : UInt8) : upd x (l ++ [b]) = crcStep (upd x l) b := by rw [upd_app]; rfl
def bitsOf (l : List UInt8) : List Bool := l.flatMap bits8
theorem bitsOf_len : ∀ l : List UInt8, (bitsOf l).length = 8 * l.length
  | [] => rfl
  | b :: l => by
    have := bitsOf_len l
    unfold bitsOf at *
    rw [List.flatMap_cons, List.length_append, this, bits8_len, List.length_cons]; omega
theorem upd_run : ∀ (l : List UInt8) (x : BitVec 32), upd x l = run x (bitsOf l)
  | [], _ => rfl
  | b :: l, x => by
    have ih := upd_run l (crcStep x b)
    unfold bitsOf at *
    rw [List.flatMap_cons, run_append, ← crcStep_run]
    exact ih
/-- The sum of a text behind a sum. -/
def crcMore (s : BitVec 32) (l : List UInt8) : BitVec 32 := ~~~ (upd (~~~ s) l)
theorem crcMore_app (s : BitVec 32) (l m : List UInt8) : crcMore s (l ++ m) = crcMore (crcMore s l) m := by
  unfold crcMore; rw [upd_app, BitVec.not_not]
/-- The table. -/
def crcAt (n : BitVec 32) : BitVec 32 := halfN 8 n
theorem crcAt_xor (x y : BitVec 32) : crcAt (x ^^^ y) = crcAt x ^^^ crcAt y := halfN_xor 8 x y
theorem crcAt_zero : crcAt 0#32 = 0#32 := halfN_zero 8
theorem low_high (x : BitVec 32) : x = ((x >>> 8) <<< 8) ^^^ (x &&& 255#32) := by
  apply BitVec.eq_of_getLsbD_eq
  intro i hi
  rw [BitVec.getLsbD_xor, BitVec.getLsbD_shiftLeft, BitVec.getLsbD_ushiftRight, BitVec.getLsbD_and]
  by_cases h : i < 8
  · have h255 : (255#32).getLsbD i = true := by
      have : ∀ k : Fin 8, (255#32).getLsbD k.val = true := by decide
      exact this ⟨i, h⟩
    simp [h, h255, hi]
  · have h255 : (255#32).getLsbD i = false := by
      have : ∀ k : Fin 32, 8 ≤ k.val → (255#32).getLsbD k.val = false := by decide
      exact this ⟨i, hi⟩ (by show 8 ≤ i; omega)
    rw [h255, Bool.and_false, Bool.xor_false]
    simp [h, hi, show 8 + (i - 8) = i by omega]
theorem step_table (x : BitVec 32) : halfN 8 x = (x >>> 8) ^^^ crcAt (x &&& 255#32) := by
  conv => lhs; rw [low_high x]
  rw [halfN_xor, halfN_shl 8 _ (by
    rw [BitVec.toNat_ushiftRight, Nat.shiftRight_eq_div_pow]
    have := x.isLt
    omega)]
  rfl
/-- Texts changed by one another. -/
def xorT (l m : List UInt8) : List UInt8 := List.zipWith (· ^^^ ·) l m
theorem ofNat_xor8 (a b : UInt8) : BitVec.ofNat 32 (a ^^^ b).toNat = BitVec.ofNat 32 a.toNat ^^^ BitVec.ofNat 32 b.toNat := by
  apply BitVec.eq_of_toNat_eq
  have ha := a.toNat_lt; have hb := b.toNat_lt
  have hx : a.toNat ^^^ b.toNat < 2 ^ 8 := Nat.xor_lt_two_pow ha hb
  rw [BitVec.toNat_xor, BitVec.toNat_ofNat, BitVec.toNat_ofNat, BitVec.toNat_ofNat, UInt8.toNat_xor, Nat.mod_eq_of_lt (by omega), Nat.mod_eq_of_lt (by omega), Nat.mod_eq_of_lt (by omega)]
theorem crcStep_xor (x y : BitVec 32) (a b : UInt8) : crcStep (x ^^^ y) (a ^^^ b) = crcStep x a ^^^ crcStep y b := by
  unfold crcStep
  rw [← halfN_xor, ofNat_xor8]
  congr 1
  rw [BitVec.xor_assoc, BitVec.xor_assoc, ← BitVec.xor_assoc y, BitVec.xor_comm y, BitVec.xor_assoc]
theorem upd_xor : ∀ (l m : List UInt8) (x y : BitVec 32), l.length = m.length → upd (x ^^^ y) (xorT l m) = upd x l ^^^ upd y m
  | [], [], _, _, _ => rfl
  | [], _ :: _, _, _, h => by simp at h
  | _ :: _, [], _, _, h => by simp at h
  | a :: l, b :: m, x, y, h => by
    show upd (crcStep (x ^^^ y) (a ^^^ b)) (xorT l m) = upd (crcStep x a) l ^^^ upd (crcStep y b) m
    rw [crcStep_xor, upd_xor l m _ _ (by simpa using h)]
theorem xorT_len {l m : List UInt8} (h : l.length = m.length) : (xorT l m).length = l.length := by unfold xorT; rw [List.length_zipWith, h, Nat.min_self]
theorem not_xor3 (x y z : BitVec 32) : ~~~ (x ^^^ y ^^^ z) = ~~~ x ^^^ ~~~ y ^^^ ~~~ z := by
  apply BitVec.eq_of_getLsbD_eq
  intro i hi
  simp only [BitVec.getLsbD_xor, BitVec.getLsbD_not, hi, decide_true, Bool.true_and]
  cases x.getLsbD i <;> cases y.getLsbD i <;> cases z.getLsbD i <;> rfl
/-- Three texts. -/
theorem three (s : BitVec 32) {a b c : List UInt8} (h : a.length = b.length) (h' : b.length = c.length) : crcMore s (xorT (xorT a b) c) = crcMore s a ^^^ crcMore s b ^^^ crcMore s c := by
  unfold crcMore
  rw [← not_xor3, ← upd_xor a b _ _ h, ← upd_xor (xorT a b) c _ _ (by rw [xorT_len h, h, h'])]
  congr 2
  rw [BitVec.xor_self, BitVec.zero_xor]
/-- Four bytes at the end. -/
theorem last {x : BitVec 32} {l a b : List UInt8} (ha : a.length = 4) (hb : b.length = 4) (h : upd x (l ++ a) = upd x (l ++ b)) : val (bitsOf a) = val (bitsOf b) := by
  rw [upd_app, upd_app, upd_run a, upd_run b, run_val _ _ (by rw [bitsOf_len, ha]; decide), run_val _ _ (by rw [bitsOf_len, hb]; decide), bitsOf_len, bitsOf_len, ha, hb] at h
  have e := halfN_inj h
  have := congrArg ((upd x l) ^^^ ·) e
  simpa [← BitVec.xor_assoc] using this
/-- A burst: bits that are turned within 32 are seen. -/
theorem burst {l m d : List Bool} {n k : Nat} {x : BitVec 32} (hl : l.length = m.length) (hd : d.length ≤ 32) (hv : val d ≠ 0#32)
    (e : List.zipWith (· ^^ ·) l m = List.replicate n false ++ (d ++ List.replicate k false)) : run x l ≠ run x m := by
  intro h
  have := run_xor l m x x hl
  rw [h, BitVec.xor_self, BitVec.xor_self, e, run_append, run_append, run_zeros, run_zeros, halfN_zero, run_val _ _ hd, BitVec.zero_xor] at this
  exact hv (halfN_ne (halfN_ne this))
end Go.Proofs.Ytkghlijmlifmjaa
