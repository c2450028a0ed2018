/- CRC-32C in plain words: a step of one bit, of a byte, of a text; a step is linear and loses nothing. CRC-32C of texts: bytes, the table, parts, three texts, the last four bytes, bursts. Bits of texts that are turned; what four bytes tell. Plain: a text with its own sum behind it ends, bit by bit, at one constant: so a turned frame's sum is wrong. Plain texts: the bytes of a number, seven bits each; which number a text begins with. Plain: a frame as a list of bytes; its parts are one; turned, cut off, or with bytes behind, it is none. -/
import Derived.Laws.BitsAllLaws
import Derived.Lib.Hide
import Derived.Test.YthbgbgobfoecoaaRows
import Derived.Laws.Strings2
namespace Go.Proofs.Ythbgbgobfoecoaa.Crc

/-- The polynomial. -/
abbrev pol : BitVec 32 := 2197175160#32
/-- One bit. -/
def half (x : BitVec 32) : BitVec 32 := if x.getLsbD 0 then (x >>> 1) ^^^ pol else x >>> 1
theorem half_xor (x y : BitVec 32) : half (x ^^^ y) = half x ^^^ half y := by
  unfold half
  rw [BitVec.getLsbD_xor, BitVec.ushiftRight_xor_distrib]
  cases x.getLsbD 0 <;> cases y.getLsbD 0
  · rfl
  · simp only [Bool.false_xor, if_true, Bool.false_eq_true, if_false]; rw [BitVec.xor_assoc]
  · simp only [Bool.xor_false, if_true, Bool.false_eq_true, if_false]; rw [BitVec.xor_assoc, BitVec.xor_assoc, BitVec.xor_comm pol]
  · simp only [Bool.xor_self, if_true, Bool.false_eq_true, if_false]
    rw [BitVec.xor_assoc, ← BitVec.xor_assoc pol, BitVec.xor_comm pol, BitVec.xor_assoc, BitVec.xor_self, BitVec.xor_zero]
theorem half_zero : half 0#32 = 0#32 := by decide
theorem half_ne {x : BitVec 32} (h : half x = 0#32) : x = 0#32 := by
  unfold half at h
  cases hb : x.getLsbD 0 with
  | true =>
    rw [hb, if_pos rfl] at h
    have := congrArg (BitVec.getLsbD · 31) h
    simp at this
    exact absurd this (by decide)
  | false =>
    rw [hb] at h
    simp only [Bool.false_eq_true, if_false] at h
    have e := congrArg BitVec.toNat h
    rw [BitVec.toNat_ushiftRight, Nat.shiftRight_eq_div_pow] at e
    have b : x.toNat % 2 = 0 := by
      have := hb
      rw [BitVec.getLsbD] at this
      simp [Nat.testBit_zero] at this
      omega
    apply BitVec.eq_of_toNat_eq
    simp only [BitVec.toNat_ofNat] at e ⊢
    omega
/-- So many bits. -/
def halfN : Nat → BitVec 32 → BitVec 32
  | 0, x => x
  | n + 1, x => halfN n (half x)
theorem halfN_xor : ∀ (n : Nat) (x y : BitVec 32), halfN n (x ^^^ y) = halfN n x ^^^ halfN n y
  | 0, _, _ => rfl
  | n + 1, x, y => by rw [halfN, half_xor, halfN_xor n, halfN, halfN]
theorem halfN_zero : ∀ n : Nat, halfN n 0#32 = 0#32
  | 0 => rfl
  | n + 1 => by rw [halfN, half_zero, halfN_zero n]
theorem halfN_ne : ∀ {n : Nat} {x : BitVec 32}, halfN n x = 0#32 → x = 0#32
  | 0, _, h => h
  | n + 1, _, h => half_ne (halfN_ne (n := n) h)
theorem halfN_inj {n : Nat} {x y : BitVec 32} (h : halfN n x = halfN n y) : x = y := by
  have e : halfN n (x ^^^ y) = 0#32 := by rw [halfN_xor, h, BitVec.xor_self]
  have := congrArg (· ^^^ y) (halfN_ne e)
  simpa [BitVec.xor_assoc] using this
theorem halfN_add : ∀ (a b : Nat) (x : BitVec 32), halfN (a + b) x = halfN b (halfN a x)
  | 0, b, x => by rw [Nat.zero_add]; rfl
  | a + 1, b, x => by rw [Nat.add_right_comm, halfN, halfN_add a b, halfN]
theorem half_shl {y : BitVec 32} (h : y.toNat < 2147483648) : half (y <<< 1) = y := by
  unfold half
  have b : (y <<< 1).getLsbD 0 = false := by simp
  rw [b]
  simp only [Bool.false_eq_true, if_false]
  apply BitVec.eq_of_toNat_eq
  rw [BitVec.toNat_ushiftRight, BitVec.toNat_shiftLeft, Nat.shiftRight_eq_div_pow, Nat.shiftLeft_eq]
  omega
theorem halfN_shl : ∀ (k : Nat) (y : BitVec 32), y.toNat * 2 ^ k < 4294967296 → halfN k (y <<< k) = y
  | 0, y, _ => by rw [halfN, BitVec.shiftLeft_zero]
  | k + 1, y, h => by
    have e : y <<< (k + 1) = (y <<< k) <<< 1 := by rw [← BitVec.shiftLeft_add]
    have hk : y.toNat * 2 ^ k < 2147483648 := by rw [Nat.pow_succ, ← Nat.mul_assoc] at h; omega
    have hs : (y <<< k).toNat < 2147483648 := by
      rw [BitVec.toNat_shiftLeft, Nat.shiftLeft_eq]
      exact Nat.lt_of_le_of_lt (Nat.mod_le _ _) hk
    rw [halfN, e, half_shl hs, halfN_shl k y (by omega)]
/-- A bit as a number. -/
def bit (b : Bool) : BitVec 32 := if b then 1#32 else 0#32
theorem bit_xor (a b : Bool) : bit (a ^^ b) = bit a ^^^ bit b := by cases a <;> cases b <;> decide
/-- Bits, one behind the other. -/
def run : BitVec 32 → List Bool → BitVec 32
  | x, [] => x
  | x, b :: r => run (half (x ^^^ bit b)) r
theorem run_append : ∀ (l m : List Bool) (x : BitVec 32), run x (l ++ m) = run (run x l) m
  | [], _, _ => rfl
  | _ :: l, m, _ => run_append l m _
theorem run_zeros : ∀ (n : Nat) (x : BitVec 32), run x (List.replicate n false) = halfN n x
  | 0, _ => rfl
  | n + 1, x => by
    rw [List.replicate_succ, run, run_zeros n, halfN, show bit false = 0#32 from rfl, BitVec.xor_zero]
theorem run_xor : ∀ (l m : List Bool) (x y : BitVec 32), l.length = m.length → run (x ^^^ y) (List.zipWith (· ^^ ·) l m) = run x l ^^^ run y m
  | [], [], _, _, _ => rfl
  | [], _ :: _, _, _, h => by simp at h
  | _ :: _, [], _, _, h => by simp at h
  | a :: l, b :: m, x, y, h => by
    rw [List.zipWith_cons_cons, run, run, run, ← run_xor l m _ _ (by simpa using h), ← half_xor, bit_xor]
    congr 2
    rw [BitVec.xor_assoc, BitVec.xor_assoc, ← BitVec.xor_assoc y, BitVec.xor_comm y, BitVec.xor_assoc]
/-- Bits as a number, the lowest first. -/
def val : List Bool → BitVec 32
  | [] => 0#32
  | b :: r => bit b ^^^ (val r <<< 1)
theorem val_toNat : ∀ (l : List Bool), l.length ≤ 32 → (val l).toNat < 2 ^ l.length
  | [], _ => by decide
  | b :: r, h => by
    have ih := val_toNat r (by simp at h; omega)
    have hl : r.length ≤ 31 := by simp at h; omega
    have hs : (val r <<< 1).toNat < 2 ^ (r.length + 1) := by
      rw [BitVec.toNat_shiftLeft, Nat.shiftLeft_eq]
      refine Nat.lt_of_le_of_lt (Nat.mod_le _ _) ?_
      rw [Nat.pow_succ]; omega
    have hb : (bit b).toNat < 2 ^ (r.length + 1) := by
      have : 2 ^ 1 ≤ 2 ^ (r.length + 1) := Nat.pow_le_pow_right (by decide) (by omega)
      cases b <;> simp [bit] <;> omega
    rw [val, BitVec.toNat_xor, List.length_cons]
    exact Nat.xor_lt_two_pow hb hs
theorem run_val : ∀ (l : List Bool) (x : BitVec 32), l.length ≤ 32 → run x l = halfN l.length (x ^^^ val l)
  | [], x, _ => by rw [run, val, BitVec.xor_zero]; rfl
  | b :: r, x, h => by
    have hl : r.length ≤ 31 := by simp at h; omega
    have hv : (val r).toNat < 2147483648 := Nat.lt_of_lt_of_le (val_toNat r (by omega)) (Nat.pow_le_pow_right (n := 2) (by decide) hl)
    rw [run, run_val r _ (by omega), List.length_cons, halfN, val, ← BitVec.xor_assoc, half_xor (x ^^^ bit b), half_shl hv]
end Go.Proofs.Ythbgbgobfoecoaa.Crc
namespace Go.Proofs.Ythbgbgobfoecoaa.Crc

/-- The bits of a byte, the lowest first. -/
def bits8 (b : UInt8) : List Bool := (List.range 8).map b.toNat.testBit
theorem bits8_len (b : UInt8) : (bits8 b).length = 8 := by unfold bits8; simp
theorem val_bits8 (b : UInt8) : val (bits8 b) = BitVec.ofNat 32 b.toNat := by
  have h : ∀ n : Fin 256, val ((List.range 8).map n.val.testBit) = BitVec.ofNat 32 n.val := by decide +kernel
  exact h ⟨b.toNat, b.toNat_lt⟩
/-- A byte. -/
def crcStep (x : BitVec 32) (b : UInt8) : BitVec 32 := halfN 8 (x ^^^ BitVec.ofNat 32 b.toNat)
theorem crcStep_run (x : BitVec 32) (b : UInt8) : crcStep x b = run x (bits8 b) := by
  rw [run_val _ _ (by rw [bits8_len]; decide), bits8_len, val_bits8]; rfl
/-- A text. -/
def upd (x : BitVec 32) (l : List UInt8) : BitVec 32 := l.foldl crcStep x
theorem upd_nil (x : BitVec 32) : upd x [] = x := rfl
theorem upd_app (x : BitVec 32) (l m : List UInt8) : upd x (l ++ m) = upd (upd x l) m := List.foldl_append
theorem upd_snoc (x : BitVec 32) (l : List UInt8) (b : UInt8) : upd x (l ++ [b]) = crcStep (upd x l) b := by rw [upd_app]; rfl
def bitsOf (l : List UInt8) : List Bool := l.flatMap bits8
theorem bitsOf_len : ∀ l : List UInt8, (bitsOf l).length = 8 * l.length
  | [] => rfl
  | b :: l => by
    have := bitsOf_len l
    unfold bitsOf at *
    rw [List.flatMap_cons, List.length_append, this, bits8_len, List.length_cons]; omega
theorem upd_run : ∀ (l : List UInt8) (x : BitVec 32), upd x l = run x (bitsOf l)
  | [], _ => rfl
  | b :: l, x => by
    have ih := upd_run l (crcStep x b)
    unfold bitsOf at *
    rw [List.flatMap_cons, run_append, ← crcStep_run]
    exact ih
/-- The sum of a text behind a sum. -/
def crcMore (s : BitVec 32) (l : List UInt8) : BitVec 32 := ~~~ (upd (~~~ s) l)
theorem crcMore_app (s : BitVec 32) (l m : List UInt8) : crcMore s (l ++ m) = crcMore (crcMore s l) m := by
  unfold crcMore; rw [upd_app, BitVec.not_not]
/-- The table. -/
def crcAt (n : BitVec 32) : BitVec 32 := halfN 8 n
theorem crcAt_xor (x y : BitVec 32) : crcAt (x ^^^ y) = crcAt x ^^^ crcAt y := halfN_xor 8 x y
theorem crcAt_zero : crcAt 0#32 = 0#32 := halfN_zero 8
theorem low_high (x : BitVec 32) : x = ((x >>> 8) <<< 8) ^^^ (x &&& 255#32) := by
  apply BitVec.eq_of_getLsbD_eq
  intro i hi
  rw [BitVec.getLsbD_xor, BitVec.getLsbD_shiftLeft, BitVec.getLsbD_ushiftRight, BitVec.getLsbD_and]
  by_cases h : i < 8
  · have h255 : (255#32).getLsbD i = true := by
      have : ∀ k : Fin 8, (255#32).getLsbD k.val = true := by decide
      exact this ⟨i, h⟩
    simp [h, h255, hi]
  · have h255 : (255#32).getLsbD i = false := by
      have : ∀ k : Fin 32, 8 ≤ k.val → (255#32).getLsbD k.val = false := by decide
      exact this ⟨i, hi⟩ (by show 8 ≤ i; omega)
    rw [h255, Bool.and_false, Bool.xor_false]
    simp [h, hi, show 8 + (i - 8) = i by omega]
theorem step_table (x : BitVec 32) : halfN 8 x = (x >>> 8) ^^^ crcAt (x &&& 255#32) := by
  conv => lhs; rw [low_high x]
  rw [halfN_xor, halfN_shl 8 _ (by
    rw [BitVec.toNat_ushiftRight, Nat.shiftRight_eq_div_pow]
    have := x.isLt
    omega)]
  rfl
/-- Texts changed by one another. -/
def xorT (l m : List UInt8) : List UInt8 := List.zipWith (· ^^^ ·) l m
theorem ofNat_xor8 (a b : UInt8) : BitVec.ofNat 32 (a ^^^ b).toNat = BitVec.ofNat 32 a.toNat ^^^ BitVec.ofNat 32 b.toNat := by
  apply BitVec.eq_of_toNat_eq
  have ha := a.toNat_lt; have hb := b.toNat_lt
  have hx : a.toNat ^^^ b.toNat < 2 ^ 8 := Nat.xor_lt_two_pow ha hb
  rw [BitVec.toNat_xor, BitVec.toNat_ofNat, BitVec.toNat_ofNat, BitVec.toNat_ofNat, UInt8.toNat_xor, Nat.mod_eq_of_lt (by omega), Nat.mod_eq_of_lt (by omega), Nat.mod_eq_of_lt (by omega)]
theorem crcStep_xor (x y : BitVec 32) (a b : UInt8) : crcStep (x ^^^ y) (a ^^^ b) = crcStep x a ^^^ crcStep y b := by
  unfold crcStep
  rw [← halfN_xor, ofNat_xor8]
  congr 1
  rw [BitVec.xor_assoc, BitVec.xor_assoc, ← BitVec.xor_assoc y, BitVec.xor_comm y, BitVec.xor_assoc]
theorem upd_xor : ∀ (l m : List UInt8) (x y : BitVec 32), l.length = m.length → upd (x ^^^ y) (xorT l m) = upd x l ^^^ upd y m
  | [], [], _, _, _ => rfl
  | [], _ :: _, _, _, h => by simp at h
  | _ :: _, [], _, _, h => by simp at h
  | a :: l, b :: m, x, y, h => by
    show upd (crcStep (x ^^^ y) (a ^^^ b)) (xorT l m) = upd (crcStep x a) l ^^^ upd (crcStep y b) m
    rw [crcStep_xor, upd_xor l m _ _ (by simpa using h)]
theorem xorT_len {l m : List UInt8} (h : l.length = m.length) : (xorT l m).length = l.length := by unfold xorT; rw [List.length_zipWith, h, Nat.min_self]
theorem not_xor3 (x y z : BitVec 32) : ~~~ (x ^^^ y ^^^ z) = ~~~ x ^^^ ~~~ y ^^^ ~~~ z := by
  apply BitVec.eq_of_getLsbD_eq
  intro i hi
  simp only [BitVec.getLsbD_xor, BitVec.getLsbD_not, hi, decide_true, Bool.true_and]
  cases x.getLsbD i <;> cases y.getLsbD i <;> cases z.getLsbD i <;> rfl
/-- Three texts. -/
theorem three (s : BitVec 32) {a b c : List UInt8} (h : a.length = b.length) (h' : b.length = c.length) : crcMore s (xorT (xorT a b) c) = crcMore s a ^^^ crcMore s b ^^^ crcMore s c := by
  unfold crcMore
  rw [← not_xor3, ← upd_xor a b _ _ h, ← upd_xor (xorT a b) c _ _ (by rw [xorT_len h, h, h'])]
  congr 2
  rw [BitVec.xor_self, BitVec.zero_xor]
/-- Four bytes at the end. -/
theorem last {x : BitVec 32} {l a b : List UInt8} (ha : a.length = 4) (hb : b.length = 4) (h : upd x (l ++ a) = upd x (l ++ b)) : val (bitsOf a) = val (bitsOf b) := by
  rw [upd_app, upd_app, upd_run a, upd_run b, run_val _ _ (by rw [bitsOf_len, ha]; decide), run_val _ _ (by rw [bitsOf_len, hb]; decide), bitsOf_len, bitsOf_len, ha, hb] at h
  have e := halfN_inj h
  have := congrArg ((upd x l) ^^^ ·) e
  simpa [← BitVec.xor_assoc] using this
/-- A burst: bits that are turned within 32 are seen. -/
theorem burst {l m d : List Bool} {n k : Nat} {x : BitVec 32} (hl : l.length = m.length) (hd : d.length ≤ 32) (hv : val d ≠ 0#32)
    (e : List.zipWith (· ^^ ·) l m = List.replicate n false ++ (d ++ List.replicate k false)) : run x l ≠ run x m := by
  intro h
  have := run_xor l m x x hl
  rw [h, BitVec.xor_self, BitVec.xor_self, e, run_append, run_append, run_zeros, run_zeros, halfN_zero, run_val _ _ hd, BitVec.zero_xor] at this
  exact hv (halfN_ne (halfN_ne this))
end Go.Proofs.Ythbgbgobfoecoaa.Crc
namespace Go.Proofs.Ythbgbgobfoecoaa.Crc

theorem val_get : ∀ (l : List Bool) (i : Nat), i < 32 → (val l).getLsbD i = l.getD i false
  | [], i, _ => by simp [val]
  | b :: r, 0, _ => by
    rw [val, BitVec.getLsbD_xor, BitVec.getLsbD_shiftLeft]
    cases b <;> simp [bit]
  | b :: r, i + 1, h => by
    have ih := val_get r i (by omega)
    have hb : (bit b).getLsbD (i + 1) = false := by
      cases b
      · simp [bit]
      · have : ∀ k : Fin 31, (1#32).getLsbD (k.val + 1) = false := by decide
        exact this ⟨i, by omega⟩
    rw [val, BitVec.getLsbD_xor, BitVec.getLsbD_shiftLeft, hb, Bool.false_xor]
    simp only [h, decide_true, Bool.true_and, show ¬ i + 1 < 1 by omega, decide_false, Bool.not_false, Nat.add_sub_cancel]
    rw [ih]; rfl
theorem val_inj {l m : List Bool} (h : l.length = m.length) (hl : l.length ≤ 32) (e : val l = val m) : l = m := by
  apply List.ext_getElem h
  intro i h1 h2
  have := congrArg (BitVec.getLsbD · i) e
  simp only [val_get _ i (by omega)] at this
  simpa [List.getD, List.getElem?_eq_getElem h1, List.getElem?_eq_getElem h2] using this
theorem bits8_inj {a b : UInt8} (h : bits8 a = bits8 b) : a = b := by
  have e := congrArg val h
  rw [val_bits8, val_bits8] at e
  have := congrArg BitVec.toNat e
  have ha := a.toNat_lt; have hb := b.toNat_lt
  rw [BitVec.toNat_ofNat, BitVec.toNat_ofNat, Nat.mod_eq_of_lt (by omega), Nat.mod_eq_of_lt (by omega)] at this
  exact UInt8.toNat_inj.1 this
theorem bitsOf_cons (b : UInt8) (l : List UInt8) : bitsOf (b :: l) = bits8 b ++ bitsOf l := List.flatMap_cons
theorem bitsOf_inj : ∀ {l m : List UInt8}, l.length = m.length → bitsOf l = bitsOf m → l = m
  | [], [], _, _ => rfl
  | [], _ :: _, h, _ => by simp at h
  | _ :: _, [], h, _ => by simp at h
  | a :: l, b :: m, h, e => by
    rw [bitsOf_cons, bitsOf_cons] at e
    obtain ⟨e1, e2⟩ := List.append_inj e (by rw [bits8_len, bits8_len])
    rw [bits8_inj e1, bitsOf_inj (by simpa using h) e2]
/-- Texts that are the same but for their last four bytes. -/
theorem last_four {x : BitVec 32} {l a b : List UInt8} (ha : a.length = 4) (hb : b.length = 4) : upd x (l ++ a) = upd x (l ++ b) ↔ a = b := by
  refine ⟨fun h => ?_, fun h => by rw [h]⟩
  exact bitsOf_inj (ha.trans hb.symm) (val_inj (by rw [bitsOf_len, bitsOf_len, ha, hb]) (by rw [bitsOf_len, ha]; decide) (last ha hb h))
theorem bitsOf_get : ∀ (l : List UInt8) (k : Nat) (h : k < (bitsOf l).length) (h' : k / 8 < l.length), (bitsOf l)[k] = (l[k / 8]).toNat.testBit (k % 8)
  | [], k, _, h' => by simp at h'
  | b :: l, k, h, h' => by
    by_cases h8 : k < 8
    · have e0 : k / 8 = 0 := by omega
      have e1 : k % 8 = k := by omega
      have : (bitsOf (b :: l))[k]? = some (b.toNat.testBit k) := by
        rw [bitsOf_cons, List.getElem?_append_left (by rw [bits8_len]; exact h8)]
        unfold bits8
        rw [List.getElem?_map, List.getElem?_range h8]; rfl
      rw [List.getElem?_eq_getElem h] at this
      rw [Option.some.inj this]
      simp only [e0, e1, List.getElem_cons_zero]
    · have hk : k - 8 < (bitsOf l).length := by rw [bitsOf_cons, List.length_append, bits8_len] at h; omega
      have hj : (k - 8) / 8 < l.length := by rw [bitsOf_len] at hk; omega
      have ih := bitsOf_get l (k - 8) hk hj
      have : (bitsOf (b :: l))[k]? = some ((bitsOf l)[k - 8]) := by
        rw [bitsOf_cons, List.getElem?_append_right (by rw [bits8_len]; omega), bits8_len, List.getElem?_eq_getElem hk]
      rw [List.getElem?_eq_getElem h] at this
      rw [Option.some.inj this, ih, show (k - 8) % 8 = k % 8 by omega]
      have e : k / 8 = (k - 8) / 8 + 1 := by omega
      simp only [e, List.getElem_cons_succ]
/-- One bit turned. -/
theorem turned (l : List UInt8) (k : Nat) (hk : k / 8 < l.length) (m : UInt8) (hm : m.toNat = 2 ^ (k % 8)) (j : Nat) (h1 : j < (bitsOf (l.set (k / 8) (l[k / 8] ^^^ m))).length) (h2 : j < (bitsOf l).length) :
    (bitsOf (l.set (k / 8) (l[k / 8] ^^^ m)))[j] = ((bitsOf l)[j] ^^ decide (j = k)) := by
  have hj : j / 8 < l.length := by rw [bitsOf_len] at h2; omega
  rw [bitsOf_get _ _ h1 (by rw [List.length_set]; exact hj), bitsOf_get _ _ h2 hj, List.getElem_set]
  by_cases e : k / 8 = j / 8
  · rw [if_pos e, UInt8.toNat_xor, Nat.testBit_xor, hm, Nat.testBit_two_pow]
    simp only [e]
    congr 1
    apply decide_eq_decide.2
    omega
  · rw [if_neg e]
    have : decide (j = k) = false := decide_eq_false (by omega)
    rw [this, Bool.xor_false]
/-- So many bits of w turned, from a place on. -/
def Turned (s : List UInt8) (w : BitVec 32) (f i : Nat) (t : List UInt8) : Prop :=
  t.length = s.length ∧ ∀ (j : Nat) (h1 : j < (bitsOf t).length) (h2 : j < (bitsOf s).length), (bitsOf t)[j] = ((bitsOf s)[j] ^^ (decide (f ≤ j ∧ j < f + i) && w.getLsbD (j - f)))
theorem Turned.zero (s : List UInt8) (w : BitVec 32) (f : Nat) : Turned s w f 0 s := ⟨rfl, fun j h1 h2 => by
  have : decide (f ≤ j ∧ j < f + 0) = false := decide_eq_false (by omega)
  rw [this, Bool.false_and, Bool.xor_false]⟩
theorem Turned.stay {s t : List UInt8} {w : BitVec 32} {f i : Nat} (h : Turned s w f i t) (hw : w.getLsbD i = false) : Turned s w f (i + 1) t := ⟨h.1, fun j h1 h2 => by
  rw [h.2 j h1 h2]
  congr 1
  by_cases e : j = f + i
  · subst e
    rw [Nat.add_sub_cancel_left, hw, Bool.and_false, Bool.and_false]
  · congr 1
    apply decide_eq_decide.2
    omega⟩
theorem Turned.turn {s t : List UInt8} {w : BitVec 32} {f i : Nat} (h : Turned s w f i t) (hw : w.getLsbD i = true) (hk : (f + i) / 8 < t.length) (m : UInt8) (hm : m.toNat = 2 ^ ((f + i) % 8)) :
    Turned s w f (i + 1) (t.set ((f + i) / 8) (t[(f + i) / 8] ^^^ m)) := ⟨by rw [List.length_set, h.1], fun j h1 h2 => by
  have h3 : j < (bitsOf t).length := by rw [bitsOf_len, h.1, ← bitsOf_len]; exact h2
  rw [turned t (f + i) hk m hm j h1 h3, h.2 j h3 h2, Bool.xor_assoc]
  congr 1
  by_cases e : j = f + i
  · subst e
    have e1 : decide (f ≤ f + i ∧ f + i < f + i) = false := decide_eq_false (by omega)
    have e2 : decide (f ≤ f + i ∧ f + i < f + (i + 1)) = true := decide_eq_true (by omega)
    rw [e1, e2, Nat.add_sub_cancel_left, hw]; simp
  · have e1 : decide (j = f + i) = false := decide_eq_false e
    rw [e1, Bool.xor_false]
    congr 1
    apply decide_eq_decide.2
    omega⟩
/-- All 32: the sums are unlike. -/
theorem Turned.unlike {s t : List UInt8} {w : BitVec 32} {f : Nat} (h : Turned s w f 32 t) (hw : w ≠ 0#32) (hf : f + 32 ≤ 8 * s.length) (x : BitVec 32) : upd x t ≠ upd x s := by
  rw [upd_run, upd_run]
  have hl : (bitsOf t).length = (bitsOf s).length := by rw [bitsOf_len, bitsOf_len, h.1]
  have dl : ((List.range 32).map w.getLsbD).length = 32 := by simp
  refine burst (d := (List.range 32).map w.getLsbD) (n := f) (k := 8 * s.length - (f + 32)) hl (by rw [dl]; exact Nat.le_refl _) (fun e => hw ?_) ?_
  · apply BitVec.eq_of_getLsbD_eq
    intro i hi
    have := congrArg (BitVec.getLsbD · i) e
    simp only [val_get _ i hi] at this
    rw [List.getD, List.getElem?_map, List.getElem?_range hi] at this
    exact this
  · apply List.ext_getElem
    · rw [List.length_zipWith, hl, Nat.min_self, bitsOf_len, List.length_append, List.length_append, List.length_replicate, List.length_replicate, dl]; omega
    · intro j h1 h2
      have j2 : j < (bitsOf s).length := by rw [List.length_zipWith, hl, Nat.min_self] at h1; exact h1
      rw [List.getElem_zipWith, h.2 j (by rw [hl]; exact j2) j2]
      have ex : ∀ a b : Bool, ((a ^^ b) ^^ a) = b := by decide
      rw [ex]
      by_cases c1 : j < f
      · rw [List.getElem_append_left (by rw [List.length_replicate]; exact c1), List.getElem_replicate]
        have : decide (f ≤ j ∧ j < f + 32) = false := decide_eq_false (by omega)
        rw [this, Bool.false_and]
      · rw [List.getElem_append_right (by rw [List.length_replicate]; omega)]
        simp only [List.length_replicate]
        by_cases c2 : j < f + 32
        · rw [List.getElem_append_left (by rw [dl]; omega), List.getElem_map, List.getElem_range]
          have : decide (f ≤ j ∧ j < f + 32) = true := decide_eq_true (by omega)
          rw [this, Bool.true_and]
        · rw [List.getElem_append_right (by rw [dl]; omega), List.getElem_replicate]
          have : decide (f ≤ j ∧ j < f + 32) = false := decide_eq_false (by omega)
          rw [this, Bool.false_and]
end Go.Proofs.Ythbgbgobfoecoaa.Crc
namespace Go.Proofs.Ythbgbgobfoecoaa.Crc

/-- A word in four bytes, the low one first. -/
def le4 (x : BitVec 32) : List UInt8 := [⟨x.setWidth 8⟩, ⟨(x >>> 8).setWidth 8⟩, ⟨(x >>> 16).setWidth 8⟩, ⟨(x >>> 24).setWidth 8⟩]
theorem le4_len (x : BitVec 32) : (le4 x).length = 4 := rfl
theorem bits8_of (y : BitVec 32) : bits8 ⟨y.setWidth 8⟩ = (List.range 8).map y.getLsbD := by
  unfold bits8
  apply List.map_congr_left
  intro i hi
  have hi := List.mem_range.1 hi
  show (y.setWidth 8).toNat.testBit i = y.getLsbD i
  rw [BitVec.testBit_toNat, BitVec.getLsbD_setWidth, decide_eq_true hi, Bool.true_and]
theorem val_le4 (x : BitVec 32) : val (bitsOf (le4 x)) = x := by
  apply BitVec.eq_of_getLsbD_eq
  intro i hi
  rw [val_get _ _ hi]
  have e : bitsOf (le4 x) = (List.range 32).map x.getLsbD := by
    unfold le4
    rw [bitsOf_cons, bitsOf_cons, bitsOf_cons, bitsOf_cons, bits8_of, bits8_of, bits8_of, bits8_of]
    have : bitsOf [] = [] := rfl
    rw [this]
    simp [List.range, List.range.loop]
  rw [e, List.getD_eq_getElem?_getD, List.getElem?_map, List.getElem?_range hi]
  rfl
/-- The constant. -/
def residue : BitVec 32 := halfN 32 (~~~ 0#32)
theorem sealed (m : List UInt8) : upd (~~~ 0#32) (m ++ le4 (crcMore 0#32 m)) = residue := by
  rw [upd_app, upd_run (le4 _), run_val _ _ (by rw [bitsOf_len, le4_len]; decide), val_le4, bitsOf_len, le4_len]
  unfold crcMore residue
  congr 1
  generalize upd (~~~ 0#32) m = y
  apply BitVec.eq_of_getLsbD_eq
  intro i hi
  rw [BitVec.getLsbD_xor, BitVec.getLsbD_not, BitVec.getLsbD_not, BitVec.getLsbD_zero, decide_eq_true hi]
  cases y.getLsbD i <;> rfl
/-- Only the right sum ends there. -/
theorem sealed_iff (m s : List UInt8) (hs : s.length = 4) : upd (~~~ 0#32) (m ++ s) = residue ↔ s = le4 (crcMore 0#32 m) := by
  rw [← sealed m]
  exact last_four hs (le4_len _)
/-- A frame that is turned within 32 bits is none. -/
theorem turned_wrong {m t m' s' : List UInt8} {w : BitVec 32} {f : Nat} (h : Turned (m ++ le4 (crcMore 0#32 m)) w f 32 t) (hw : w ≠ 0#32) (hf : f + 32 ≤ 8 * (m.length + 4))
    (e : t = m' ++ s') (hs : s'.length = 4) : s' ≠ le4 (crcMore 0#32 m') := by
  intro es
  have u := h.unlike hw (by rw [List.length_append, le4_len]; exact hf) (~~~ 0#32)
  apply u
  rw [sealed, e, sealed_iff _ _ hs]
  exact es
end Go.Proofs.Ythbgbgobfoecoaa.Crc
namespace Go.Proofs.Ythbgbgobfoecoaa

/-- The bytes of a text; the text of bytes. -/
abbrev L (s : ByteArray) : List UInt8 := s.data.toList
abbrev bs (l : List UInt8) : ByteArray := ⟨l.toArray⟩
theorem L_bs (l : List UInt8) : L (bs l) = l := rfl
theorem bs_L (s : ByteArray) : bs (L s) = s := by cases s; simp
theorem L_len (s : ByteArray) : (L s).length = s.size := by cases s; simp [ByteArray.size]
theorem bs_size (l : List UInt8) : (bs l).size = l.length := by simp [ByteArray.size]
theorem L_app (a b : ByteArray) : L (a ++ b) = L a ++ L b := by cases a; cases b; simp
theorem L_inj {a b : ByteArray} (h : L a = L b) : a = b := by rw [← bs_L a, ← bs_L b, h]
theorem L_ext (s : ByteArray) (a b : Nat) : L (s.extract a b) = ((L s).drop a).take (b - a) := by
  obtain ⟨l, rfl⟩ : ∃ l, s = bs l := ⟨L s, (bs_L s).symm⟩
  rw [ByteArray.extract_mk]
theorem L_take (s : ByteArray) (k : Nat) : L (s.extract 0 k) = (L s).take k := by rw [L_ext]; simp
theorem L_drop (s : ByteArray) (k : Nat) : L (s.extract k s.size) = (L s).drop k := by
  rw [L_ext, List.take_of_length_le (by rw [List.length_drop, L_len]; exact Nat.le_refl _)]

/-- A byte. -/
abbrev by8 (n : Nat) : UInt8 := UInt8.ofNat n
theorem by8_toNat {n : Nat} (h : n < 256) : (by8 n).toNat = n := by
  rw [UInt8.toNat_ofNat']; exact Nat.mod_eq_of_lt (by omega)
/-- A number as it is written. -/
def enc (n : Nat) : List UInt8 := if h : n < 128 then [by8 n] else by8 (128 + n % 128) :: enc (n / 128)
termination_by n
decreasing_by omega
theorem enc_low {n : Nat} (h : n < 128) : enc n = [by8 n] := by rw [enc, dif_pos h]
theorem enc_high {n : Nat} (h : ¬ n < 128) : enc n = by8 (128 + n % 128) :: enc (n / 128) := by rw [enc, dif_neg h]
theorem enc_pos (n : Nat) : 0 < (enc n).length := by
  by_cases h : n < 128
  · rw [enc_low h]; simp
  · rw [enc_high h]; simp
theorem enc_len {n k : Nat} (h : n < 128 ^ (k + 1)) : (enc n).length ≤ k + 1 := by
  induction k generalizing n with
  | zero => rw [enc_low (by simpa using h)]; simp
  | succ k ih =>
    by_cases hn : n < 128
    · rw [enc_low hn]; simp
    · rw [enc_high hn, List.length_cons]
      have : n / 128 < 128 ^ (k + 1) := by
        rw [Nat.pow_succ] at h
        exact Nat.div_lt_of_lt_mul (by rw [Nat.mul_comm]; exact h)
      have := ih this
      omega
theorem enc_ten {n : Nat} (h : n < 18446744073709551616) : (enc n).length ≤ 10 := enc_len (k := 9) (Nat.lt_of_lt_of_le h (by decide))
/-- The number of bytes, seven bits each. -/
def val7 : List UInt8 → Nat
  | [] => 0
  | b :: r => b.toNat % 128 + 128 * val7 r
theorem val7_app (l m : List UInt8) : val7 (l ++ m) = val7 l + 128 ^ l.length * val7 m := by
  induction l with
  | nil => simp [val7]
  | cons b r ih => rw [List.cons_append, val7, val7, ih, List.length_cons, Nat.pow_succ, Nat.mul_add, Nat.add_assoc, Nat.mul_comm (128 ^ r.length) 128, Nat.mul_assoc]
theorem val7_enc (n : Nat) : val7 (enc n) = n := by
  induction n using Nat.strongRecOn with
  | _ n ih =>
    by_cases h : n < 128
    · rw [enc_low h, val7, val7, by8_toNat (by omega)]; omega
    · rw [enc_high h, val7, ih _ (by omega), by8_toNat (by omega)]; omega
theorem enc_inj {a b : Nat} (h : enc a = enc b) : a = b := by rw [← val7_enc a, ← val7_enc b, h]
/-- Where the first byte below 128 stands. -/
def fl : List UInt8 → Option Nat
  | [] => none
  | b :: r => if b.toNat < 128 then some 0 else (fl r).map (· + 1)
theorem fl_enc (n : Nat) (r : List UInt8) : fl (enc n ++ r) = some ((enc n).length - 1) := by
  induction n using Nat.strongRecOn with
  | _ n ih =>
    by_cases h : n < 128
    · rw [enc_low h]
      simp only [List.cons_append, fl]
      rw [if_pos (by rw [by8_toNat (by omega)]; exact h)]
      rfl
    · have e := ih (n / 128) (by omega)
      have p := enc_pos (n / 128)
      rw [enc_high h]
      simp only [List.cons_append, fl]
      rw [if_neg (by rw [by8_toNat (by omega)]; omega), e, Option.map_some, List.length_cons]
      congr 1; omega
theorem fl_some {l : List UInt8} {i : Nat} (h : fl l = some i) : ∃ hi : i < l.length, l[i].toNat < 128 ∧ ∀ j (hj : j < i), ¬ (l[j]'(by omega)).toNat < 128 := by
  induction l generalizing i with
  | nil => cases h
  | cons b r ih =>
    by_cases hb : b.toNat < 128
    · rw [fl, if_pos hb] at h
      cases h
      exact ⟨by simp, hb, fun j hj => absurd hj (by omega)⟩
    · rw [fl, if_neg hb] at h
      rcases hr : fl r with _ | k
      · rw [hr] at h; cases h
      · rw [hr, Option.map_some] at h
        injection h with h
        subst h
        obtain ⟨h1, h2, h3⟩ := ih hr
        refine ⟨by simp; omega, by simpa using h2, fun j hj => ?_⟩
        cases j with
        | zero => simpa using hb
        | succ j => simpa using h3 j (by omega)
theorem fl_at {l : List UInt8} {i : Nat} (hi : i < l.length) (h1 : l[i].toNat < 128) (h2 : ∀ j (hj : j < i), ¬ (l[j]'(by omega)).toNat < 128) : fl l = some i := by
  induction l generalizing i with
  | nil => simp at hi
  | cons b r ih =>
    cases i with
    | zero => rw [fl, if_pos (by simpa using h1)]
    | succ i =>
      have hb : ¬ b.toNat < 128 := by simpa using h2 0 (by omega)
      rw [fl, if_neg hb, ih (i := i) (by simpa using hi) (by simpa using h1) (fun j hj => by simpa using h2 (j + 1) (by omega)), Option.map_some]
/-- The number that a text begins with, and how many bytes it has. -/
def numAt (l : List UInt8) : Option (Nat × Nat) :=
  match fl l with
  | some i => if val7 (l.take (i + 1)) < 18446744073709551616 ∧ enc (val7 (l.take (i + 1))) = l.take (i + 1) then some (val7 (l.take (i + 1)), i + 1) else none
  | none => none
theorem numAt_iff {l : List UInt8} {n k : Nat} : numAt l = some (n, k) ↔ n < 18446744073709551616 ∧ k = (enc n).length ∧ l.take k = enc n := by
  constructor
  · intro h
    unfold numAt at h
    rcases hf : fl l with _ | i
    · rw [hf] at h; cases h
    · rw [hf] at h
      simp only at h
      split at h
      · rename_i hc
        simp only [Option.some.injEq, Prod.mk.injEq] at h
        obtain ⟨rfl, rfl⟩ := h
        obtain ⟨hi, _, _⟩ := fl_some hf
        refine ⟨hc.1, ?_, hc.2.symm⟩
        rw [hc.2, List.length_take]; omega
      · cases h
  · rintro ⟨h1, h2, h3⟩
    have e : l = enc n ++ l.drop k := by rw [← h3, List.take_append_drop]
    have p := enc_pos n
    have hf : fl l = some (k - 1) := by rw [e, h2]; exact fl_enc n _
    unfold numAt
    rw [hf]
    simp only
    rw [Nat.sub_add_cancel (by omega), h3, val7_enc, if_pos ⟨h1, rfl⟩]
theorem numAt_none {l : List UInt8} (h : ∀ n k, n < 18446744073709551616 → k = (enc n).length → l.take k = enc n → False) : numAt l = none := by
  rcases hn : numAt l with _ | ⟨n, k⟩
  · rfl
  · obtain ⟨a, b, c⟩ := numAt_iff.1 hn
    exact (h n k a b c).elim
theorem numAt_long {l : List UInt8} (h : ∀ j (hj : j < l.length), j < 10 → ¬ l[j].toNat < 128) : numAt l = none := by
  refine numAt_none fun n k h1 h2 h3 => ?_
  have e : l = enc n ++ l.drop k := by rw [← h3, List.take_append_drop]
  have p := enc_pos n
  have q := enc_ten h1
  have hf : fl l = some ((enc n).length - 1) := by
    conv => lhs; rw [e]
    exact fl_enc n _
  obtain ⟨a, b, _⟩ := fl_some hf
  exact h _ a (by omega) b
theorem numAt_here {l : List UInt8} {i : Nat} (hi : i < l.length) (h1 : l[i].toNat < 128) (h2 : ∀ j (hj : j < i), ¬ (l[j]'(by omega)).toNat < 128) :
    numAt l = if enc (val7 (l.take (i + 1)) % 18446744073709551616) = l.take (i + 1) then some (val7 (l.take (i + 1)) % 18446744073709551616, i + 1) else none := by
  have hf := fl_at hi h1 h2
  unfold numAt
  rw [hf]
  simp only
  by_cases hv : val7 (l.take (i + 1)) < 18446744073709551616
  · rw [Nat.mod_eq_of_lt hv]
    by_cases he : enc (val7 (l.take (i + 1))) = l.take (i + 1)
    · rw [if_pos ⟨hv, he⟩, if_pos he]
    · rw [if_neg (fun x => he x.2), if_neg he]
  · rw [if_neg (fun x => hv x.1), if_neg]
    intro he
    have := val7_enc (val7 (l.take (i + 1)) % 18446744073709551616)
    rw [he] at this
    have := Nat.mod_lt (val7 (l.take (i + 1))) (show 0 < 18446744073709551616 by decide)
    omega
/-- So many bytes of a number, the lowest first; the number of bytes. -/
def leb (n : Nat) : Nat → List UInt8
  | 0 => []
  | k + 1 => by8 (n % 256) :: leb (n / 256) k
theorem leb_len (n k : Nat) : (leb n k).length = k := by
  induction k generalizing n with
  | zero => rfl
  | succ k ih => rw [leb, List.length_cons, ih]
def vle : List UInt8 → Nat
  | [] => 0
  | b :: r => b.toNat + 256 * vle r
theorem vle_lt : ∀ l : List UInt8, vle l < 256 ^ l.length
  | [] => by simp [vle]
  | b :: r => by
    have := vle_lt r
    have h := b.toNat_lt
    rw [vle, List.length_cons, Nat.pow_succ]
    omega
theorem vle_leb {n k : Nat} (h : n < 256 ^ k) : vle (leb n k) = n := by
  induction k generalizing n with
  | zero => have : n = 0 := by simpa using h
            rw [this]; rfl
  | succ k ih =>
    have : n / 256 < 256 ^ k := by
      rw [Nat.pow_succ] at h
      exact Nat.div_lt_of_lt_mul (by rw [Nat.mul_comm]; exact h)
    rw [leb, vle, ih this, by8_toNat (by omega)]; omega
theorem leb_vle : ∀ l : List UInt8, leb (vle l) l.length = l
  | [] => rfl
  | b :: r => by
    have h := b.toNat_lt
    rw [List.length_cons, leb, vle, show (b.toNat + 256 * vle r) / 256 = vle r by omega, leb_vle r, show (b.toNat + 256 * vle r) % 256 = b.toNat by omega]
    congr 1
    exact UInt8.ofNat_toNat
theorem vle_drop (l : List UInt8) (k : Nat) (h : k < l.length) : vle (l.drop k) = l[k].toNat + 256 * vle (l.drop (k + 1)) := by
  rw [List.drop_eq_getElem_cons h, vle]
theorem vle_drop_lt {l : List UInt8} (h : l.length ≤ 8) (k : Nat) : vle (l.drop k) < 18446744073709551616 := by
  have a := vle_lt (l.drop k)
  have b : (l.drop k).length ≤ 8 := by rw [List.length_drop]; omega
  refine Nat.lt_of_lt_of_le a (Nat.le_trans (Nat.pow_le_pow_right (by decide) b) (by decide))
theorem val7_take (l : List UInt8) (k : Nat) (h : k < l.length) : val7 (l.take (k + 1)) = val7 (l.take k) + 128 ^ k * (l[k].toNat % 128) := by
  rw [List.take_succ_eq_append_getElem h, val7_app, List.length_take, Nat.min_eq_left (by omega)]
  simp [val7]
end Go.Proofs.Ythbgbgobfoecoaa
namespace Go.Proofs.Ythbgbgobfoecoaa

/-- SMPH, a byte 1, the kind. -/
def fhead (k : Nat) : List UInt8 := [83, 77, 80, 72, 1, by8 k]
/-- What is ahead of the sum. -/
def fbody (k : Nat) (l : List UInt8) : List UInt8 := fhead k ++ (enc l.length ++ l)
/-- The sum's bytes. -/
def fsum (l : List UInt8) : List UInt8 := Crc.le4 (Crc.crcMore 0#32 l)
def fseal (k : Nat) (l : List UInt8) : List UInt8 := fbody k l ++ fsum (fbody k l)
theorem fhead_len (k : Nat) : (fhead k).length = 6 := rfl
theorem fsum_len (l : List UInt8) : (fsum l).length = 4 := rfl
theorem fbody_len (k : Nat) (l : List UInt8) : (fbody k l).length = 6 + (enc l.length).length + l.length := by
  unfold fbody; rw [List.length_append, List.length_append, fhead_len]; omega
theorem fseal_len (k : Nat) (l : List UInt8) : (fseal k l).length = 10 + (enc l.length).length + l.length := by
  unfold fseal; rw [List.length_append, fbody_len, fsum_len]; omega
/-- A text of a frame's form: its kind, its payload, four bytes behind. -/
structure Form (s : List UInt8) (k : Nat) (l t : List UInt8) : Prop where
  lo : 1 ≤ k
  hi : k ≤ 8
  most : l.length ≤ 65536
  four : t.length = 4
  eq : s = fbody k l ++ t
theorem Form.len {s : List UInt8} {k : Nat} {l t : List UInt8} (h : Form s k l t) : s.length = 10 + (enc l.length).length + l.length := by
  rw [h.eq, List.length_append, fbody_len, h.four]; omega
theorem form_seal {k : Nat} {l : List UInt8} (h1 : 1 ≤ k) (h8 : k ≤ 8) (hl : l.length ≤ 65536) : Form (fseal k l) k l (fsum (fbody k l)) := ⟨h1, h8, hl, rfl, rfl⟩
/-- No number's bytes begin another's. -/
theorem enc_pre {a b : Nat} {x y : List UInt8} (ha : a < 18446744073709551616) (hb : b < 18446744073709551616) (h : enc a ++ x = enc b ++ y) : a = b ∧ x = y := by
  have e1 : numAt (enc a ++ x) = some (a, (enc a).length) := numAt_iff.2 ⟨ha, rfl, by simp⟩
  have e2 : numAt (enc b ++ y) = some (b, (enc b).length) := numAt_iff.2 ⟨hb, rfl, by simp⟩
  rw [h, e2] at e1
  have e : a = b := by simp only [Option.some.injEq, Prod.mk.injEq] at e1; exact e1.1.symm
  subst e
  exact ⟨rfl, List.append_cancel_left h⟩
theorem by8_inj {a b : Nat} (ha : a < 256) (hb : b < 256) (h : by8 a = by8 b) : a = b := by
  have := congrArg UInt8.toNat h
  rwa [by8_toNat ha, by8_toNat hb] at this
/-- A frame's form, with what is behind it: its parts are one. -/
theorem body_pre {k k' : Nat} {l l' x y : List UInt8} (hk : k ≤ 8) (hk' : k' ≤ 8) (hl : l.length ≤ 65536) (hl' : l'.length ≤ 65536) (h : fbody k l ++ x = fbody k' l' ++ y) : k = k' ∧ l = l' ∧ x = y := by
  unfold fbody at h
  simp only [List.append_assoc] at h
  obtain ⟨a, b⟩ := List.append_inj h rfl
  have ek : k = k' := by
    unfold fhead at a
    simp only [List.cons.injEq, true_and, and_true] at a
    exact by8_inj (by omega) (by omega) a
  obtain ⟨e, r⟩ := enc_pre (by omega) (by omega) b
  obtain ⟨c, d⟩ := List.append_inj r e
  exact ⟨ek, c, d⟩
theorem Form.one {s : List UInt8} {k k' : Nat} {l l' t t' : List UInt8} (h : Form s k l t) (h' : Form s k' l' t') : k = k' ∧ l = l' ∧ t = t' :=
  body_pre h.hi h'.hi h.most h'.most (h.eq.symm.trans h'.eq)
/-- Cut off, or with bytes behind: none. -/
theorem Form.cut {s : List UInt8} {k : Nat} {l t : List UInt8} (h : Form s k l t) {n : Nat} (hn : n < s.length) {k' : Nat} {l' t' : List UInt8} : ¬ Form (s.take n) k' l' t' := by
  intro h'
  have e : fbody k' l' ++ (t' ++ s.drop n) = fbody k l ++ t := by
    rw [← List.append_assoc, ← h'.eq, List.take_append_drop, h.eq]
  obtain ⟨_, e2, e3⟩ := body_pre h'.hi h.hi h'.most h.most e
  have := congrArg List.length e3
  rw [List.length_append, h'.four, h.four, List.length_drop] at this
  omega
theorem Form.more {s : List UInt8} {k : Nat} {l t m : List UInt8} (h : Form s k l t) (hm : m ≠ []) {k' : Nat} {l' t' : List UInt8} : ¬ Form (s ++ m) k' l' t' := by
  intro h'
  have e : fbody k' l' ++ t' = fbody k l ++ (t ++ m) := by rw [← h'.eq, h.eq, List.append_assoc]
  obtain ⟨_, e2, e3⟩ := body_pre h'.hi h.hi h'.most h.most e
  have := congrArg List.length e3
  rw [List.length_append, h'.four, h.four] at this
  exact hm (List.eq_nil_of_length_eq_zero (by omega))
/-- Turned within 32 bits: of no such form, or its sum is another. -/
theorem Form.burst {s : List UInt8} {k f : Nat} {l : List UInt8} {w : BitVec 32} (h : Crc.Turned (fseal k l) w f 32 s) (hw : w ≠ 0#32) (hf : f + 32 ≤ 8 * (fseal k l).length) {k' : Nat} {l' t' : List UInt8} (h' : Form s k' l' t') : t' ≠ fsum (fbody k' l') :=
  Crc.turned_wrong (m := fbody k l) h hw (by unfold fseal at hf; rw [List.length_append, fsum_len] at hf; exact hf) h'.eq h'.four
/-- What Open answers: the kind, the payload, the error's number. -/
noncomputable def opn (s : List UInt8) : Nat × List UInt8 × Nat :=
  open Classical in
  if h : ∃ x : Nat × List UInt8 × List UInt8, Form s x.1 x.2.1 x.2.2 then
    if (Classical.choose h).2.2 = fsum (fbody (Classical.choose h).1 (Classical.choose h).2.1) then ((Classical.choose h).1, (Classical.choose h).2.1, 0) else (0, [], 11)
  else (0, [], 2)
theorem opn_none {s : List UInt8} (h : ∀ k l t, ¬ Form s k l t) : opn s = (0, [], 2) := by
  unfold opn
  rw [dif_neg (fun ⟨x, hx⟩ => h _ _ _ hx)]
theorem opn_form {s : List UInt8} {k : Nat} {l t : List UInt8} (h : Form s k l t) : opn s = if t = fsum (fbody k l) then (k, l, 0) else (0, [], 11) := by
  have hx : ∃ x : Nat × List UInt8 × List UInt8, Form s x.1 x.2.1 x.2.2 := ⟨(k, l, t), h⟩
  unfold opn
  rw [dif_pos hx]
  obtain ⟨e1, e2, e3⟩ := (Classical.choose_spec hx).one h
  rw [e1, e2, e3]
theorem opn_yes {s : List UInt8} {k : Nat} {l : List UInt8} (h : Form s k l (fsum (fbody k l))) : opn s = (k, l, 0) := by rw [opn_form h, if_pos rfl]
theorem opn_sum {s : List UInt8} {k : Nat} {l t : List UInt8} (h : Form s k l t) (ht : t ≠ fsum (fbody k l)) : opn s = (0, [], 11) := by rw [opn_form h, if_neg ht]
theorem opn_seal {k : Nat} {l : List UInt8} (h1 : 1 ≤ k) (h8 : k ≤ 8) (hl : l.length ≤ 65536) : opn (fseal k l) = (k, l, 0) := opn_yes (form_seal h1 h8 hl)
/-- The three answers. -/
theorem opn_cases (s : List UInt8) : (∃ k l, 1 ≤ k ∧ k ≤ 8 ∧ l.length ≤ 65536 ∧ s = fseal k l ∧ opn s = (k, l, 0)) ∨ opn s = (0, [], 2) ∨ opn s = (0, [], 11) := by
  by_cases h : ∃ x : Nat × List UInt8 × List UInt8, Form s x.1 x.2.1 x.2.2
  · obtain ⟨⟨k, l, t⟩, h⟩ := h
    by_cases e : t = fsum (fbody k l)
    · exact .inl ⟨k, l, h.lo, h.hi, h.most, by rw [h.eq]; show fbody k l ++ t = _; rw [e]; rfl, by rw [opn_form h, if_pos e]⟩
    · exact .inr (.inr (opn_sum h e))
  · exact .inr (.inl (opn_none fun k l t hf => h ⟨(k, l, t), hf⟩))
theorem opn_cut {k : Nat} {l : List UInt8} (h1 : 1 ≤ k) (h8 : k ≤ 8) (hl : l.length ≤ 65536) {n : Nat} (hn : n < (fseal k l).length) : opn ((fseal k l).take n) = (0, [], 2) := opn_none fun _ _ _ => (form_seal h1 h8 hl).cut hn
theorem opn_more {k : Nat} {l m : List UInt8} (h1 : 1 ≤ k) (h8 : k ≤ 8) (hl : l.length ≤ 65536) (hm : m ≠ []) : opn (fseal k l ++ m) = (0, [], 2) := opn_none fun _ _ _ => (form_seal h1 h8 hl).more hm
theorem opn_burst {s : List UInt8} {k f : Nat} {l : List UInt8} {w : BitVec 32} (h : Crc.Turned (fseal k l) w f 32 s) (hw : w ≠ 0#32) (hf : f + 32 ≤ 8 * (fseal k l).length) : opn s = (0, [], 2) ∨ opn s = (0, [], 11) := by
  by_cases hx : ∃ x : Nat × List UInt8 × List UInt8, Form s x.1 x.2.1 x.2.2
  · obtain ⟨⟨k', l', t'⟩, h'⟩ := hx
    exact .inr (opn_sum h' (Form.burst h hw hf h'))
  · exact .inl (opn_none fun k l t hh => hx ⟨(k, l, t), hh⟩)
theorem fseal_inj {k k' : Nat} {l l' : List UInt8} (hk : k ≤ 8) (hk' : k' ≤ 8) (hl : l.length ≤ 65536) (hl' : l'.length ≤ 65536) (h : fseal k l = fseal k' l') : k = k' ∧ l = l' :=
  ⟨(body_pre hk hk' hl hl' h).1, (body_pre hk hk' hl hl' h).2.1⟩
/-- What a walk finds, as a form. -/
theorem form_of {s : List UInt8} {k n c : Nat} (hm : s.take 6 = fhead k) (h1 : 1 ≤ k) (h8 : k ≤ 8) (hn : numAt (s.drop 6) = some (n, c)) (hl : n ≤ 65536) (he : s.length = 6 + c + n + 4) :
    Form s k (((s.drop 6).drop c).take n) (s.drop (6 + c + n)) := by
  obtain ⟨_, hc, ht⟩ := numAt_iff.1 hn
  have len : (((s.drop 6).drop c).take n).length = n := by rw [List.length_take, List.length_drop, List.length_drop]; omega
  refine ⟨h1, h8, by rw [len]; exact hl, by rw [List.length_drop]; omega, ?_⟩
  unfold fbody
  rw [len, ← hm, ← ht, List.append_assoc, List.append_assoc]
  have e3 : ((s.drop 6).drop c).take n ++ s.drop (6 + c + n) = (s.drop 6).drop c := by
    rw [← List.drop_drop, ← List.drop_drop, List.take_append_drop]
  rw [e3, List.take_append_drop, List.take_append_drop]
theorem Form.head {s : List UInt8} {k : Nat} {l t : List UInt8} (h : Form s k l t) : s.take 6 = fhead k := by
  rw [h.eq]; unfold fbody; rw [List.append_assoc, List.take_append_of_le_length (by rw [fhead_len]; exact Nat.le_refl _), List.take_of_length_le (by rw [fhead_len]; exact Nat.le_refl _)]
theorem Form.num {s : List UInt8} {k : Nat} {l t : List UInt8} (h : Form s k l t) : numAt (s.drop 6) = some (l.length, (enc l.length).length) := by
  have hl := h.most
  have e : s.drop 6 = enc l.length ++ (l ++ t) := by
    rw [h.eq]; unfold fbody; rw [List.append_assoc, List.append_assoc]; exact List.drop_left (l₁ := fhead k)
  rw [e]
  exact numAt_iff.2 ⟨by omega, rfl, by simp⟩
end Go.Proofs.Ythbgbgobfoecoaa
