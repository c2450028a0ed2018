/- Plain: what is written is read; what is read would be written so. Plain: limbs that are read. Plain arithmetic: the order of numbers by their limbs; naturals. Bits of words of 32 and 64 bits; how many bits a number has. What wire's walks lean on, where nat's and rat's texts aren't wanted. One block of the call's own turns, all else stays; what ends by a panic: need, take, ahead. Plain numbers: when the bytes that are read are those that would be written. -/
import Derived.Test.YthbgbgobfoecoaaJ03
import Derived.Laws.BitsAllLaws
import Derived.Laws.BitsLemmas
import Derived.Lib.BitFns
import Derived.Test.YthbgbgobfoecoaaShelf
import Derived.WalkSmall
import Derived.Recover
namespace Go.Proofs.Ythbgbgobfoecoaa
open Go.RowKit
set_option linter.unusedVariables false
set_option linter.unusedSimpArgs false
theorem numAt_app {n : Nat} (h : n < 18446744073709551616) (r : List UInt8) : numAt (enc n ++ r) = some (n, (enc n).length) :=
  numAt_iff.2 ⟨h, rfl, by rw [List.take_left']; rfl⟩
theorem numOf_app {n : Nat} (h : n < 18446744073709551616) (r : List UInt8) : numOf (enc n ++ r) = (n, (enc n).length) := numOf_some (numAt_app h r)
theorem numOf_yes {l : List UInt8} (h : (numOf l).2 ≠ 0) : enc (numOf l).1 = l.take (numOf l).2 ∧ (numOf l).1 < 18446744073709551616 := by
  cases e : numAt l with
  | none => rw [numOf_none e] at h; exact absurd rfl h
  | some x =>
    obtain ⟨n, k⟩ := x
    rw [numOf_some e]
    obtain ⟨a, b, c⟩ := numAt_iff.1 e
    exact ⟨c.symm, a⟩
theorem enc_more {n : Nat} (h : ¬ n < 128) : (enc n).length = (enc (n / 128)).length + 1 := by rw [enc_high h, List.length_cons]
theorem enc_one {n : Nat} (h : n < 128) : (enc n).length = 1 := by rw [enc_low h]; rfl
theorem restB_at {s : ByteArray} {i : Nat} {a b : List UInt8} (h : L s = a ++ b) (hi : i = a.length) : L (restB s i false) = b := by
  have e : (L s).length = a.length + b.length := by rw [h, List.length_append]
  rw [L_len] at e
  rw [restB_L (by omega), h, hi, List.drop_left']; rfl
/-- A number that is written is read. -/
theorem readN_back {s : ByteArray} {i n most : Nat} {a b : List UInt8} (h : L s = a ++ (enc n ++ b)) (hi : i = a.length) (hn : n < 18446744073709551616) (hm : n ≤ most) : readN s i false most = some (n, (enc n).length) := by
  have e : (L s).length = a.length + (enc n ++ b).length := by rw [h, List.length_append]
  rw [L_len] at e
  have R := restB_at h hi
  have p := enc_pos n
  rw [readN_some ⟨okR_at (by omega), by rw [R, numOf_app hn]; show (enc n).length ≠ 0; omega, by rw [R, numOf_app hn]; exact hm⟩, R, numOf_app hn]
/-- A number that is read would be written so. -/
theorem readN_once {s : ByteArray} {most n k : Nat} (h : readN s 0 false most = some (n, k)) : bs (enc n) = s.extract 0 k ∧ n < 18446744073709551616 := by
  by_cases c : okR s.size 0 false = true ∧ (numOf (L (restB s 0 false))).2 ≠ 0 ∧ (numOf (L (restB s 0 false))).1 ≤ most
  · rw [readN_some c] at h
    injection h with h
    obtain ⟨e, l⟩ := numOf_yes c.2.1
    rw [h] at e l
    have R : L (restB s (0 : Nat) false) = L s := by rw [restB_L (Nat.zero_le _), List.drop_zero]
    refine ⟨L_inj ?_, l⟩
    rw [L_bs, L_take]
    exact e.trans (congrArg (List.take k) R)
  · rw [readN_none c] at h; cases h
/-- A text that is written is read. -/
theorem readT_back {s t : ByteArray} {i : Nat} {most : Int} {a b : List UInt8} (h : L s = a ++ (enc t.size ++ (L t ++ b))) (hi : i = a.length) (hn : t.size < 18446744073709551616) (hm : (t.size : Int) ≤ most) :
    readT s i false most = some (t.size, (enc t.size).length) ∧ textB (restB s i false) (some (t.size, (enc t.size).length)) = t := by
  have e : (L s).length = a.length + (enc t.size ++ (L t ++ b)).length := by rw [h, List.length_append]
  rw [L_len] at e
  have R := restB_at h hi
  have p := enc_pos t.size
  have q : (restB s i false).size = (enc t.size).length + (t.size + b.length) := by
    rw [← L_len, R, List.length_append, List.length_append, L_len]
  refine ⟨?_, ?_⟩
  · rw [readT_some ⟨okR_at (by omega), by rw [R, numOf_app hn]; show (enc t.size).length ≠ 0; omega, by omega, by rw [R, numOf_app hn]; exact hm, by rw [R, numOf_app hn]; show t.size + (enc t.size).length ≤ _; omega⟩, R, numOf_app hn]
  · refine L_inj ?_
    rw [textB_some, L_ext, R, List.drop_left' rfl, Nat.add_sub_cancel_left, List.take_left' (L_len t)]
/-- A text that is read would be written so. -/
theorem readT_once {s : ByteArray} {most : Int} {n k : Nat} (h : readT s 0 false most = some (n, k)) :
    bs (enc n) ++ textB (restB s 0 false) (some (n, k)) = s.extract 0 (n + k) ∧ (textB (restB s 0 false) (some (n, k))).size = n ∧ n < 18446744073709551616 := by
  by_cases c : okR s.size 0 false = true ∧ (numOf (L (restB s 0 false))).2 ≠ 0 ∧ 0 ≤ most ∧ ((numOf (L (restB s 0 false))).1 : Int) ≤ most ∧ (numOf (L (restB s 0 false))).1 + (numOf (L (restB s 0 false))).2 ≤ (restB s 0 false).size
  · rw [readT_some c] at h
    injection h with h
    obtain ⟨e, l⟩ := numOf_yes c.2.1
    have f := c.2.2.2.2
    rw [h] at e l f
    have R : L (restB s (0 : Nat) false) = L s := by rw [restB_L (Nat.zero_le _), List.drop_zero]
    have R' : restB s 0 false = s := L_inj R
    rw [R'] at e f ⊢
    refine ⟨L_inj ?_, ?_, l⟩
    · rw [L_app, L_bs, e, textB_some, L_ext, L_take, Nat.add_sub_cancel_left, Nat.add_comm n k, List.take_add]
    · rw [textB_some, ByteArray.size_extract]
      change n + k ≤ s.size at f
      omega
  · rw [readT_none c] at h; cases h
/-- A number of 128 bits that is written is read. -/
theorem readW_back {s : ByteArray} {i h l : Nat} {a b : List UInt8} (e : L s = a ++ (leb l 8 ++ (leb h 8 ++ b))) (hi : i = a.length) (hh : h < 18446744073709551616) (hl : l < 18446744073709551616) :
    readW s i false = some 16 ∧ wideB (restB s i false) (some 16) = (h, l) := by
  have f : (L s).length = a.length + (leb l 8 ++ (leb h 8 ++ b)).length := by rw [e, List.length_append]
  rw [L_len, List.length_append, List.length_append, leb_len, leb_len] at f
  have R := restB_at e hi
  have q : (restB s i false).size = 8 + (8 + b.length) := by
    rw [← L_len, R, List.length_append, List.length_append, leb_len, leb_len]
  refine ⟨readW_some ⟨okR_at (by omega), by omega⟩, ?_⟩
  rw [wideB_some, L_ext, L_ext, R, List.drop_left' (leb_len l 8), List.drop_zero, List.take_left' (leb_len h 8), List.take_left' (leb_len l 8), vle_leb (k := 8) (Nat.lt_of_lt_of_le hh (by decide)), vle_leb (k := 8) (Nat.lt_of_lt_of_le hl (by decide))]
end Go.Proofs.Ythbgbgobfoecoaa
namespace Go.Proofs.Ythbgbgobfoecoaa
open Go.RowKit
set_option linter.unusedVariables false
set_option linter.unusedSimpArgs false
/-- A number of 128 bits that is read would be written so. -/
theorem readW_once {s : ByteArray} {k : Nat} (h : readW s 0 false = some k) :
    k = 16 ∧ bs (leb (wideB (restB s 0 false) (some k)).2 8 ++ leb (wideB (restB s 0 false) (some k)).1 8) = s.extract 0 16 ∧ (wideB (restB s 0 false) (some k)).1 < 18446744073709551616 ∧ (wideB (restB s 0 false) (some k)).2 < 18446744073709551616 := by
  by_cases c : okR s.size 0 false = true ∧ 16 ≤ (restB s 0 false).size
  · rw [readW_some c] at h
    injection h with h
    have R : L (restB s (0 : Nat) false) = L s := by rw [restB_L (Nat.zero_le _), List.drop_zero]
    have R' : restB s 0 false = s := L_inj R
    have f := c.2
    rw [R'] at f ⊢
    rw [wideB_some, L_ext, L_ext, List.drop_zero]
    have e1 : ((L s).take (8 - 0)).length = 8 := by rw [List.length_take, L_len]; omega
    have e2 : (((L s).drop 8).take (16 - 8)).length = 8 := by rw [List.length_take, List.length_drop, L_len]; omega
    refine ⟨h.symm, L_inj ?_, ?_, ?_⟩
    · have a1 := leb_vle ((L s).take (8 - 0))
      have a2 := leb_vle (((L s).drop 8).take (16 - 8))
      rw [e1] at a1
      rw [e2] at a2
      rw [L_bs, L_take]
      dsimp only
      rw [a1, a2, show (16 : Nat) = 8 + 8 from rfl, List.take_add]
    · have := vle_lt (((L s).drop 8).take (16 - 8))
      rw [e2] at this
      exact Nat.lt_of_lt_of_le this (by decide)
    · have := vle_lt ((L s).take (8 - 0))
      rw [e1] at this
      exact Nat.lt_of_lt_of_le this (by decide)
  · rw [readW_none c] at h; cases h
/-- So many limbs of bytes. -/
def lims (l : List UInt8) : Nat → List Nat
  | 0 => []
  | n + 1 => vle (l.take 4) :: lims (l.drop 4) n
theorem lims_zero (l : List UInt8) : lims l 0 = [] := rfl
theorem lims_succ (l : List UInt8) (n : Nat) : lims l (n + 1) = vle (l.take 4) :: lims (l.drop 4) n := rfl
theorem lims_len (l : List UInt8) (n : Nat) : (lims l n).length = n := by
  induction n generalizing l with
  | zero => rfl
  | succ n ih => rw [lims_succ, List.length_cons, ih]
theorem lims_snoc (l : List UInt8) (n : Nat) : lims l (n + 1) = lims l n ++ [vle ((l.drop (4 * n)).take 4)] := by
  induction n generalizing l with
  | zero => rfl
  | succ n ih => rw [lims_succ, ih, lims_succ l n, List.drop_drop, List.cons_append, show 4 * (n + 1) = 4 + 4 * n from by omega]
theorem lims_lo (l : List UInt8) (n : Nat) : Lo (lims l n) := by
  induction n generalizing l with
  | zero => intro x hx; cases hx
  | succ n ih =>
    intro x hx
    rw [lims_succ] at hx
    rcases List.mem_cons.1 hx with rfl | h
    · have := vle_lt (l.take 4)
      exact Nat.lt_of_lt_of_le this (Nat.le_trans (Nat.pow_le_pow_right (by decide) (by rw [List.length_take]; exact Nat.min_le_left _ _)) (by decide : 256 ^ 4 ≤ 4294967296))
    · exact ih _ x h
theorem lbs_lims {l : List UInt8} {n : Nat} (h : 4 * n ≤ l.length) : lbs (lims l n) = l.take (4 * n) := by
  induction n generalizing l with
  | zero => rw [lims_zero, lbs_nil, Nat.mul_zero, List.take_zero]
  | succ n ih =>
    have e : (l.take 4).length = 4 := by rw [List.length_take]; omega
    have a := leb_vle (l.take 4)
    rw [e] at a
    rw [lims_succ, lbs_cons, a, ih (by rw [List.length_drop]; omega), show 4 * (n + 1) = 4 + 4 * n from by omega, List.take_add]
theorem lims_lbs {xs : List Nat} (h : Lo xs) (r : List UInt8) : lims (lbs xs ++ r) xs.length = xs := by
  induction xs with
  | nil => rfl
  | cons x xs ih =>
    have hx : x < 256 ^ 4 := Nat.lt_of_lt_of_le (h x (List.mem_cons_self)) (by decide)
    rw [List.length_cons, lims_succ, lbs_cons, List.append_assoc, List.take_left' (leb_len x 4), List.drop_left' (leb_len x 4), vle_leb hx, ih (fun y hy => h y (List.mem_cons_of_mem _ hy))]
end Go.Proofs.Ythbgbgobfoecoaa
namespace Go.Proofs.Ythbgbgobfoecoaa
/-- Are limbs a natural's? -/
def Nt (xs : List Nat) : Prop := xs.length ≤ 64 ∧ ∀ hn : xs ≠ [], xs.getLast hn ≠ 0
theorem Nt.eq {xs : List Nat} (h : Nt xs) (k : Lo xs) : xs = limbs (val xs) := (limbs_val k h.2).symm
theorem Nt.of {a : Nat} (h : ln a ≤ 64) : Nt (limbs a) := ⟨h, fun hn => limbs_last a hn⟩
theorem pred_succ_of_pos {n : Nat} (h : 0 < n) : n - 1 + 1 = n := by omega
theorem Nt.no {xs : List Nat} (h : ¬ Nt xs) (k : xs.length ≤ 64) : ∃ j, j + 1 = xs.length ∧ xs[j]? = some 0 := by
  by_cases hn : xs = []
  · exact absurd ⟨k, fun x => absurd hn x⟩ h
  · have hl : 0 < xs.length := List.length_pos_iff.2 hn
    refine ⟨xs.length - 1, pred_succ_of_pos hl, ?_⟩
    by_cases z : xs.getLast hn = 0
    · rw [List.getLast_eq_getElem] at z
      rw [List.getElem?_eq_getElem (Nat.sub_lt hl Nat.one_pos), z]
    · exact absurd ⟨k, fun _ => z⟩ h
/-- -1, 0 or 1. -/
@[irreducible] def sgn (a b : Nat) : Int := if a < b then -1 else if b < a then 1 else 0
theorem sgn_lt {a b : Nat} (h : a < b) : sgn a b = -1 := by unfold sgn; rw [if_pos h]
theorem sgn_gt {a b : Nat} (h : b < a) : sgn a b = 1 := by unfold sgn; rw [if_neg (by omega), if_pos h]
theorem sgn_eq (a : Nat) : sgn a a = 0 := by unfold sgn; rw [if_neg (by omega), if_neg (by omega)]
theorem sgn_congr {a b c d : Nat} (h : a < b ↔ c < d) (k : b < a ↔ d < c) : sgn a b = sgn c d := by
  unfold sgn
  by_cases p : a < b
  · rw [if_pos p, if_pos (h.1 p)]
  · rw [if_neg p, if_neg (fun x => p (h.2 x))]
    by_cases q : b < a
    · rw [if_pos q, if_pos (k.1 q)]
    · rw [if_neg q, if_neg (fun x => q (k.2 x))]
theorem lt_of_ln_lt {a b : Nat} (h : ln a < ln b) : a < b := by
  apply Decidable.byContradiction
  intro k
  have := ln_mono (show b ≤ a by omega)
  omega
theorem sgn_ln {a b : Nat} (h : ln a ≠ ln b) : sgn (ln a) (ln b) = sgn a b := by
  rcases Nat.lt_or_gt_of_ne h with k | k
  · rw [sgn_lt k, sgn_lt (lt_of_ln_lt k)]
  · rw [sgn_gt k, sgn_gt (lt_of_ln_lt k)]
theorem lt_of_top {P x y s t r : Nat} (hs : s < P) (h : x < y) : s + P * (x + B * r) < t + P * (y + B * r) := by
  have : P * (x + B * r) + P ≤ P * (y + B * r) := by
    rw [← Nat.mul_succ]
    exact Nat.mul_le_mul_left _ (by omega)
  omega
theorem sgn_top {a b k : Nat} (ha : k < (limbs a).length) (hb : k < (limbs b).length) (he : (limbs a).drop (k + 1) = (limbs b).drop (k + 1)) (hne : (limbs a)[k] ≠ (limbs b)[k]) :
    sgn (limbs a)[k] (limbs b)[k] = sgn a b := by
  have ea := val_split (limbs a) k (by omega)
  have eb := val_split (limbs b) k (by omega)
  rw [val_limbs, val_drop _ k ha] at ea
  rw [val_limbs, val_drop _ k hb, ← he] at eb
  have la := val_take_limbs_lt a k
  have lb := val_take_limbs_lt b k
  rcases Nat.lt_or_gt_of_ne hne with h | h
  · rw [sgn_lt h, sgn_lt]
    rw [ea, eb]
    exact lt_of_top la h
  · rw [sgn_gt h, sgn_gt]
    rw [ea, eb]
    exact lt_of_top lb h
theorem drop_step {xs ys : List Nat} {k : Nat} (hx : k < xs.length) (hy : k < ys.length) (h : xs[k] = ys[k]) (he : xs.drop (k + 1) = ys.drop (k + 1)) : xs.drop k = ys.drop k := by
  rw [List.drop_eq_getElem_cons hx, List.drop_eq_getElem_cons hy, h, he]
end Go.Proofs.Ythbgbgobfoecoaa
namespace Go.Proofs.Ythbgbgobfoecoaa
open Go

theorem ofInt_u32 (a : Nat) (ha : a < 4294967296) : (BitVec.ofInt 32 (a : Int)).toNat = a := by
  rw [BitVec.ofInt_natCast, BitVec.toNat_ofNat]; exact Nat.mod_eq_of_lt (by omega)
theorem ofInt_u64 (a : Nat) (ha : a < 18446744073709551616) : (BitVec.ofInt 64 (a : Int)).toNat = a := by
  rw [BitVec.ofInt_natCast, BitVec.toNat_ofNat]; exact Nat.mod_eq_of_lt (by omega)
theorem u32_and_nat (a b : Nat) (ha : a < 4294967296) (hb : b < 4294967296) : bits .and .u32 (a : Int) (b : Int) = ((a &&& b : Nat) : Int) := by
  have hx : a &&& b < 2 ^ 32 := Nat.and_lt_two_pow _ (by omega)
  show IntKind.u32.wrap ((BitVec.ofInt 32 (a : Int) &&& BitVec.ofInt 32 (b : Int)).toNat : Int) = _
  rw [BitVec.toNat_and, ofInt_u32 a ha, ofInt_u32 b hb, IntKind.wrap_u32]
  omega
theorem u32_or_nat (a b : Nat) (ha : a < 4294967296) (hb : b < 4294967296) : bits .or .u32 (a : Int) (b : Int) = ((a ||| b : Nat) : Int) := by
  have hx : a ||| b < 2 ^ 32 := Nat.or_lt_two_pow (by omega) (by omega)
  show IntKind.u32.wrap ((BitVec.ofInt 32 (a : Int) ||| BitVec.ofInt 32 (b : Int)).toNat : Int) = _
  rw [BitVec.toNat_or, ofInt_u32 a ha, ofInt_u32 b hb, IntKind.wrap_u32]
  omega
theorem u32_xor_nat (a b : Nat) (ha : a < 4294967296) (hb : b < 4294967296) : bits .xor .u32 (a : Int) (b : Int) = ((a ^^^ b : Nat) : Int) := by
  have hx : a ^^^ b < 2 ^ 32 := Nat.xor_lt_two_pow (by omega) (by omega)
  show IntKind.u32.wrap ((BitVec.ofInt 32 (a : Int) ^^^ BitVec.ofInt 32 (b : Int)).toNat : Int) = _
  rw [BitVec.toNat_xor, ofInt_u32 a ha, ofInt_u32 b hb, IntKind.wrap_u32]
  omega
theorem u64_or_nat (a b : Nat) (ha : a < 18446744073709551616) (hb : b < 18446744073709551616) : bits .or .u64 (a : Int) (b : Int) = ((a ||| b : Nat) : Int) := by
  have hx : a ||| b < 2 ^ 64 := Nat.or_lt_two_pow (by omega) (by omega)
  show IntKind.u64.wrap ((BitVec.ofInt 64 (a : Int) ||| BitVec.ofInt 64 (b : Int)).toNat : Int) = _
  rw [BitVec.toNat_or, ofInt_u64 a ha, ofInt_u64 b hb, IntKind.wrap_u64]
  omega
theorem u32_max : IntKind.u32.max = ((4294967295 : Nat) : Int) := by decide
/-- What lies apart is added. -/
theorem or_apart (x y k : Nat) (hy : y < 2 ^ k) : x * 2 ^ k ||| y = x * 2 ^ k + y := by
  rw [Nat.mul_comm, ← Nat.two_pow_add_eq_or_of_lt hy]
theorem u64_or_up (x y : Nat) (hx : x < 4294967296) (hy : y < 4294967296) : bits .or .u64 ((x : Int) * 4294967296) (y : Int) = (x : Int) * 4294967296 + (y : Int) := by
  have e : (x : Int) * 4294967296 = ((x * 4294967296 : Nat) : Int) := by omega
  rw [e, u64_or_nat _ _ (by omega) (by omega)]
  have := or_apart x y 32 (by omega)
  rw [show (2 : Nat) ^ 32 = 4294967296 by decide] at this
  omega

theorem tb31 (x : Nat) (h : x < 4294967296) : x.testBit 31 = decide (2147483648 ≤ x) := by
  rw [Nat.testBit_eq_decide_div_mod_eq]
  have : x / 2 ^ 31 % 2 = 1 ↔ 2147483648 ≤ x := by omega
  simp only [this]
theorem top31 (x : Nat) (h : x < 4294967296) : x / 2147483648 = if x.testBit 31 = true then 1 else 0 := by
  rw [tb31 x h]
  by_cases k : 2147483648 ≤ x
  · rw [if_pos (by simpa using k)]; omega
  · rw [if_neg (by simpa using k)]; omega
/-- 1 or 0. -/
@[irreducible] def bor (x y : Nat) : Nat := if x < y then 1 else 0
theorem bor_yes {x y : Nat} (h : x < y) : bor x y = 1 := by unfold bor; rw [if_pos h]
theorem bor_no {x y : Nat} (h : ¬ x < y) : bor x y = 0 := by unfold bor; rw [if_neg h]
theorem bor_le (x y : Nat) : bor x y ≤ 1 := by unfold bor; split <;> omega
theorem borrow_top (x y c d : Nat) (hx : x < 4294967296) (hy : y < 4294967296) (hc : c ≤ 1) (hd : d = (x + 4294967296 + 4294967296 - y - c) % 4294967296) :
    (((4294967295 ^^^ x) &&& y) ||| ((4294967295 ^^^ (x ^^^ y)) &&& d)) / 2147483648 = bor x (y + c) := by
  have hd' : d < 4294967296 := by rw [hd]; exact Nat.mod_lt _ (by decide)
  have l1 : (4294967295 ^^^ x) &&& y < 2 ^ 32 := Nat.and_lt_two_pow _ (by omega)
  have l2 : (4294967295 ^^^ (x ^^^ y)) &&& d < 2 ^ 32 := Nat.and_lt_two_pow _ (by omega)
  rw [top31 _ (Nat.or_lt_two_pow l1 l2), Nat.testBit_or, Nat.testBit_and, Nat.testBit_and, Nat.testBit_xor, Nat.testBit_xor, Nat.testBit_xor, tb31 x hx, tb31 y hy, tb31 d hd', show (4294967295 : Nat).testBit 31 = true by decide]
  unfold bor
  by_cases a : 2147483648 ≤ x <;> by_cases b : 2147483648 ≤ y <;> by_cases e : 2147483648 ≤ d <;> simp [a, b, e] <;> omega

/-- How many bits a number has. -/
def bl (n : Nat) : Nat := if h : n = 0 then 0 else bl (n / 2) + 1
termination_by n
decreasing_by exact Nat.div_lt_self (Nat.pos_of_ne_zero h) (by decide)
theorem bl_zero : bl 0 = 0 := by rw [bl]; rfl
theorem bl_pos {n : Nat} (h : n ≠ 0) : bl n = bl (n / 2) + 1 := by rw [bl, dif_neg h]
theorem lt_bl (n : Nat) : n < 2 ^ bl n := by
  induction n using Nat.strongRecOn with
  | _ n ih =>
    by_cases h : n = 0
    · rw [h, bl_zero]; decide
    · rw [bl_pos h, Nat.pow_succ]
      have := ih (n / 2) (Nat.div_lt_self (Nat.pos_of_ne_zero h) (by decide))
      omega
theorem le_bl {n : Nat} (h : n ≠ 0) : 2 ^ (bl n - 1) ≤ n := by
  induction n using Nat.strongRecOn with
  | _ n ih =>
    rw [bl_pos h, Nat.add_sub_cancel]
    by_cases k : n / 2 = 0
    · rw [k, bl_zero]; simp; omega
    · have := ih (n / 2) (Nat.div_lt_self (Nat.pos_of_ne_zero h) (by decide)) k
      have e := bl_pos k
      rw [e, Nat.add_sub_cancel] at this
      rw [e, Nat.pow_succ]
      omega
theorem pow_lt_pow_iff {a b : Nat} (h : 2 ^ a < 2 ^ b) : a < b := (Nat.pow_lt_pow_iff_right (by decide)).1 h
theorem bl_of {n k : Nat} (h1 : 2 ^ k ≤ n) (h2 : n < 2 ^ (k + 1)) : bl n = k + 1 := by
  have hn : n ≠ 0 := by have := Nat.two_pow_pos k; omega
  have a := lt_bl n
  have b := le_bl hn
  have p1 := pow_lt_pow_iff (Nat.lt_of_le_of_lt h1 a)
  have p2 := pow_lt_pow_iff (Nat.lt_of_le_of_lt b h2)
  have := bl_pos hn
  omega
theorem bl_le {n k : Nat} (h : n < 2 ^ k) : bl n ≤ k := by
  by_cases hn : n = 0
  · rw [hn, bl_zero]; omega
  · have p := pow_lt_pow_iff (Nat.lt_of_le_of_lt (le_bl hn) h)
    omega
theorem bitLen_bl (x : Nat) (h : x < 18446744073709551616) : Lib.bitLen x = bl x := by
  induction x using Nat.strongRecOn with
  | _ x ih =>
    by_cases hx : x = 0
    · subst hx; rw [bl_zero]; decide
    · rw [Lib.bitLen_half x hx (by omega), bl_pos hx, ih (x / 2) (Nat.div_lt_self (Nat.pos_of_ne_zero hx) (by decide)) (by omega), Nat.add_comm]
theorem B_pow (k : Nat) : B ^ k = 2 ^ (32 * k) := by rw [B_eq, show (4294967296 : Nat) = 2 ^ 32 by decide, Nat.pow_mul]
theorem bl_add_mul {t P k x : Nat} (ht : t < 2 ^ k) (hP : P = 2 ^ k) (hx : x ≠ 0) : bl (t + P * x) = k + bl x := by
  have a := lt_bl x
  have b := le_bl hx
  have e := bl_pos hx
  subst hP
  have e2 : k + bl x = (k + (bl x - 1)) + 1 := by omega
  rw [e2]
  refine bl_of ?_ ?_
  · rw [Nat.pow_add]
    have := Nat.mul_le_mul_left (2 ^ k) b
    omega
  · rw [← e2, Nat.pow_add]
    have := Nat.mul_le_mul_left (2 ^ k) (show x + 1 ≤ 2 ^ bl x by omega)
    rw [Nat.mul_add] at this
    omega
theorem bl_limbs {a k : Nat} (hk : k + 1 = (limbs a).length) : bl a = k * 32 + bl ((limbs a)[k]'(by omega)) := by
  have e := val_split (limbs a) k (by omega)
  have d := val_drop (limbs a) k (by omega)
  have z : (limbs a).drop (k + 1) = [] := List.drop_of_length_le (by omega)
  rw [z, val_nil, Nat.mul_zero, Nat.add_zero] at d
  rw [val_limbs, d] at e
  have l := val_take_limbs_lt a k
  conv => lhs; rw [e]
  rw [bl_add_mul (k := 32 * k) (by rw [← B_pow]; exact l) (B_pow k) (last_ne_zero hk), Nat.mul_comm]
end Go.Proofs.Ythbgbgobfoecoaa
namespace Go.Proofs.Ythbgbgobfoecoaa
end Go.Proofs.Ythbgbgobfoecoaa
namespace Go.Proofs.Ythbgbgobfoecoaa
open Go.RowKit
set_option linter.unusedVariables false
set_option linter.unusedSimpArgs false
set_option maxHeartbeats 1000000
set_option maxRecDepth 100000
/-- Block g turns into cs; nothing else that was there turns. -/
structure Tk (g : Nat) (cs : Array Value) (W W' : World) : Prop where
  box : Box W' g cs
  os : W'.os = W.os
  tape : W'.tape = W.tape
  output : W'.output = W.output
  size : W.heap.size ≤ W'.heap.size
  block : ∀ k, k < W.heap.size → k ≠ g → W'.heap[k]? = W.heap[k]?
section
variable {w W W' W'' : World} {g : Nat} {cs ds : Array Value}
theorem Tk.refl (h : Box W g cs) : Tk g cs W W := ⟨h, rfl, rfl, rfl, Nat.le_refl _, fun _ _ _ => rfl⟩
theorem Tk.next (h : Tk g cs W W') (hb : Below W'.heap.size W' W'') : Tk g cs W W'' :=
  ⟨h.box.next hb, hb.os.trans h.os, hb.tape.trans h.tape, hb.output.trans h.output, Nat.le_trans h.size hb.size, fun k hk hn => (hb.block k (Nat.lt_of_lt_of_le hk h.size)).trans (h.block k hk hn)⟩
theorem Tk.trans (h : Tk g cs W W') (h' : Tk g ds W' W'') : Tk g ds W W'' :=
  ⟨h'.box, h'.os.trans h.os, h'.tape.trans h.tape, h'.output.trans h.output, Nat.le_trans h.size h'.size, fun k hk hn => (h'.block k (Nat.lt_of_lt_of_le hk h.size) hn).trans (h.block k hk hn)⟩
theorem Tk.set (h : Tk g cs W W') (i : Nat) (u : Value) : Tk g (cs.setIfInBounds i u) W (W'.setCell ⟨g, i, none⟩ u) :=
  ⟨h.box.set i u, h.os, h.tape, h.output, by rw [show (W'.setCell ⟨g, i, none⟩ u).heap.size = W'.heap.size by simp [World.setCell]]; exact h.size, fun k hk hn => (Below.heap_setCell W' ⟨g, i, none⟩ u k hn).trans (h.block k hk hn)⟩
theorem Tk.drew (h : Tk g cs W W') : Tk g cs W W'.drew := ⟨h.box, h.os, h.tape, h.output, h.size, h.block⟩
theorem Tk.alloc (h : Tk g cs W W') (o : Obj) : Tk g cs W (W'.alloc o) := h.next ((Below.refl _ _).alloc (Nat.le_refl _) o)
theorem Tk.below (h : Tk g cs W W') {B : Nat} (hg : B ≤ g) (hB : B ≤ W.heap.size) : Below B W W' := ⟨h.os, h.tape, h.output, h.size, fun k hk => h.block k (by omega) (by omega)⟩
theorem Tk.pre (hb : Below W.heap.size W W') (h : Tk g cs W' W'') : Tk g cs W W'' :=
  ⟨h.box, h.os.trans hb.os, h.tape.trans hb.tape, h.output.trans hb.output, Nat.le_trans hb.size h.size, fun k hk hn => (h.block k (Nat.lt_of_lt_of_le hk hb.size) hn).trans (hb.block k hk)⟩
theorem Tk.old (h : Tk g cs W W') (hg : W.heap.size ≤ g) : Below W.heap.size W W' := h.below hg (Nat.le_refl _)
theorem Tk.cell (h : Tk g cs W W') {p : Addr} {v : Value} (hp : p.block ≠ g) (hc : W.cell? p = some v) : W'.cell? p = some v := by
  rw [World.cell?_of_block (w := W) (h.block p.block (cell_lt hc) hp)]; exact hc
theorem Box.tk {k : Nat} (h : Box W k ds) (t : Tk g cs W W') (hn : k ≠ g) : Box W' k ds := by
  have l := h.lt
  obtain ⟨x, h⟩ := h
  exact ⟨x, (t.block k l hn).trans h⟩
theorem One.tk (h : One w g ds W) (t : Tk g cs W W') : One w g cs W' := ⟨t.box, h.hg, h.bl.trans (t.below h.hg h.bl.size)⟩
theorem Duo.tk {r : Nat} {es : Array Value} (h : Duo w g r es ds W) (t : Tk r cs W W') : Duo w g r es cs W' :=
  ⟨h.bg.tk t h.ne, t.box, h.ne, h.hg, h.hr, h.bl.trans (t.below h.hr h.bl.size)⟩
end
/-- What a call that finds something missing ends with. -/
abbrev lost8 : List PanicEntry := [{ v := .iface 73 (.agg #[]), recovered := false }]
theorem need_yes (w : World) : Calls Try.prog 36 #[.bool true] w fun e w' => e = .returned (.tuple #[]) ∧ w = w' := by
  go_enter Try.func36, Try.ntmps36
  go_wp2
  go_end0
  exact ⟨rfl, rfl⟩
theorem need_no (w : World) : Calls Try.prog 36 #[.bool false] w fun e w' => e = .panicked lost8 ∧ w = w' := by
  go_enter Try.func36, Try.ntmps36
  go_wp2
  exact ⟨rfl, rfl, rfl⟩
/-- What is taken. -/
theorem take_yes {b : ByteArray} {n g : Nat} {w : World} (h : Box w g #[.string b]) (hn : n ≤ b.size) (hs : b.size ≤ 281474976710656) : Calls Try.prog 37 #[.pointer (some ⟨g, 0, none⟩), .int .i64 (n : Int)] w fun e w' =>
    e = .returned (.string (b.extract 0 n)) ∧ Tk g #[.string (b.extract n b.size)] w w' := by
  have c0 : w.cell? ⟨g, 0, none⟩ = some (.string b) := h.cell rfl
  have m0 := h.melt 0
  have h1 : (n : Int) ≤ b.size := by omega
  have h2 : (0 : Int) ≤ n := by omega
  have h3 : ¬ (b.size : Int) < n := by omega
  have KN := Lib.hid need_yes
  have T := (Tk.refl h).set 0 (.string (b.extract n b.size))
  go_enter Try.func37, Try.ntmps37
  go_wp2_with fail
  refine (KN.out _).mono ?_
  rintro e z ⟨rfl, rfl⟩
  go_wp2_with fail
  go_ret
  exact ⟨rfl, T⟩
theorem take_no {b : ByteArray} {n g : Nat} {w : World} (h : Box w g #[.string b]) (hn : ¬ n ≤ b.size) : Calls Try.prog 37 #[.pointer (some ⟨g, 0, none⟩), .int .i64 (n : Int)] w fun e w' =>
    e = .panicked lost8 ∧ w = w' := by
  have c0 : w.cell? ⟨g, 0, none⟩ = some (.string b) := h.cell rfl
  have m0 := h.melt 0
  have h1 : ¬ (n : Int) ≤ b.size := by omega
  have KN := Lib.hid need_no
  go_enter Try.func37, Try.ntmps37
  go_wp2_with fail
  refine (KN.out _).mono ?_
  rintro e z ⟨rfl, rfl⟩
  go_wp2_with fail
  exact ⟨rfl, rfl, rfl⟩
end Go.Proofs.Ythbgbgobfoecoaa
namespace Go.Proofs.Ythbgbgobfoecoaa
open Go.RowKit
theorem val7_lt : ∀ l : List UInt8, val7 l < 128 ^ l.length
  | [] => by simp [val7]
  | b :: r => by
    have := val7_lt r
    rw [val7, List.length_cons, Nat.pow_succ]
    omega
/-- Bytes of which all but the last one are above 127, and the last one is above 0 if there are more. -/
theorem enc_can : ∀ (l : List UInt8) (b : UInt8), (∀ x ∈ l, ¬ x.toNat < 128) → b.toNat < 128 → (b.toNat ≠ 0 ∨ l = []) → enc (val7 (l ++ [b])) = l ++ [b]
  | [], b, _, hb, _ => by
    have : val7 ([] ++ [b]) = b.toNat := by simp [val7]; omega
    rw [this, enc_low hb]
    show [UInt8.ofNat b.toNat] = [b]
    rw [UInt8.ofNat_toNat]
  | x :: r, b, hx, hb, h0 => by
    have hb0 : b.toNat ≠ 0 := by rcases h0 with h | h; · exact h
                                 · cases h
    have ih := enc_can r b (fun y hy => hx y (List.mem_cons_of_mem _ hy)) hb (Or.inl hb0)
    have x1 := hx x (List.mem_cons_self ..)
    have x2 := x.toNat_lt
    have pos : 0 < val7 (r ++ [b]) := by
      rw [val7_app]
      have : 0 < 128 ^ r.length * val7 [b] := Nat.mul_pos (Nat.pow_pos (by decide)) (by simp [val7]; omega)
      omega
    have e : val7 (x :: r ++ [b]) = x.toNat % 128 + 128 * val7 (r ++ [b]) := rfl
    rw [e, enc_high (by omega), show (x.toNat % 128 + 128 * val7 (r ++ [b])) / 128 = val7 (r ++ [b]) by omega, ih]
    rw [show 128 + (x.toNat % 128 + 128 * val7 (r ++ [b])) % 128 = x.toNat by omega]
    show UInt8.ofNat x.toNat :: _ = _
    rw [UInt8.ofNat_toNat]; rfl
/-- .. else they would not be written so. -/
theorem enc_not {l : List UInt8} {b : UInt8} (hl : l ≠ []) (hb : b.toNat = 0) {n : Nat} (hn : val7 (l ++ [b]) = n) : enc n ≠ l ++ [b] := by
  intro h
  have e := congrArg List.length h
  have v : n < 128 ^ l.length := by
    rw [← hn, val7_app]
    have := val7_lt l
    simp [val7, hb]; exact this
  obtain ⟨k, hk⟩ : ∃ k, l.length = k + 1 := ⟨l.length - 1, by have := List.length_pos_iff.2 hl; omega⟩
  rw [hk] at v
  have := enc_len v
  rw [e, List.length_append, hk] at this
  simp at this
  try omega
theorem pow7 (i : Nat) : 128 ^ i = 2 ^ (7 * i) := by rw [Nat.pow_mul]
theorem v64_val {l : List UInt8} {i : Nat} (hi : i ≤ 9) : v64 l i = val7 (l.take i) ∧ v64 l i < 128 ^ i := by
  have a := val7_lt (l.take i)
  have b : 128 ^ (l.take i).length ≤ 128 ^ i := Nat.pow_le_pow_right (by decide) (by rw [List.length_take]; exact Nat.min_le_left _ _)
  have c : 128 ^ i ≤ 128 ^ 9 := Nat.pow_le_pow_right (by decide) hi
  have d : (128 ^ 9 : Nat) < 18446744073709551616 := by decide
  have e : v64 l i = val7 (l.take i) := by rw [v64_eq]; exact Nat.mod_eq_of_lt (by omega)
  exact ⟨e, by rw [e]; omega⟩
theorem split64 {i : Nat} (hi : i ≤ 9) : ∃ q, 18446744073709551616 = 128 ^ i * q := by
  refine ⟨2 ^ (64 - 7 * i), ?_⟩
  rw [pow7, ← Nat.pow_add, show 7 * i + (64 - 7 * i) = 64 by omega]
/-- The next word. -/
theorem v64_next {l : List UInt8} {i : Nat} (h : i < l.length) (hi : i ≤ 9) : v64 l (i + 1) = v64 l i + 128 ^ i * (l[i].toNat % 128) % 18446744073709551616 := by
  obtain ⟨e, lt⟩ := v64_val (l := l) hi
  obtain ⟨q, hq⟩ := split64 hi
  rw [v64_eq, val7_take l i h, ← e]
  have h2 : 128 ^ i * (l[i].toNat % 128) % 18446744073709551616 = 128 ^ i * ((l[i].toNat % 128) % q) := by rw [hq, Nat.mul_mod_mul_left]
  rw [h2]
  have h3 : (v64 l i + 128 ^ i * (l[i].toNat % 128)) % 18446744073709551616 = v64 l i + 128 ^ i * ((l[i].toNat % 128) % q) := by
    rw [hq, Nat.mod_mul, Nat.add_mul_mod_self_left, Nat.mod_eq_of_lt lt, Nat.add_mul_div_left _ _ (Nat.pow_pos (by decide)), Nat.div_eq_of_lt lt, Nat.zero_add]
  exact h3
theorem v64_div {l : List UInt8} {i : Nat} (h : i < l.length) (hi : i ≤ 9) (hl : l[i].toNat < 128) : v64 l (i + 1) / 128 ^ i = l[i].toNat ↔ val7 (l.take (i + 1)) < 18446744073709551616 := by
  obtain ⟨e, lt⟩ := v64_val (l := l) hi
  obtain ⟨q, hq⟩ := split64 hi
  have q0 : 0 < q := by
    rcases Nat.eq_zero_or_pos q with h0 | h0
    · rw [h0] at hq; simp at hq
    · exact h0
  rw [v64_next h hi, Nat.mod_eq_of_lt hl, val7_take l i h, ← e, Nat.mod_eq_of_lt hl, hq, Nat.mul_mod_mul_left, Nat.add_mul_div_left _ _ (Nat.pow_pos (by decide)), Nat.div_eq_of_lt lt, Nat.zero_add]
  have p := Nat.pow_pos (n := i) (show 0 < 128 by decide)
  constructor
  · intro hm
    have : l[i].toNat < q := by rw [← hm]; exact Nat.mod_lt _ q0
    calc v64 l i + 128 ^ i * l[i].toNat < 128 ^ i + 128 ^ i * l[i].toNat := by omega
      _ = 128 ^ i * (l[i].toNat + 1) := by rw [Nat.mul_add, Nat.mul_one, Nat.add_comm]
      _ ≤ 128 ^ i * q := Nat.mul_le_mul_left _ this
  · intro hv
    refine Nat.mod_eq_of_lt (Nat.lt_of_mul_lt_mul_left (a := 128 ^ i) ?_)
    omega
/-- What the program looks at, at a byte below 128. -/
theorem num_here {l : List UInt8} {i : Nat} (h : i < l.length) (hi : i ≤ 9) (hl : l[i].toNat < 128) (hb : ∀ j (hj : j < i), ¬ (l[j]'(by omega)).toNat < 128) :
    numAt l = if (l[i].toNat ≠ 0 ∨ i = 0) ∧ v64 l (i + 1) / 2 ^ (7 * i) = l[i].toNat then some (v64 l (i + 1), i + 1) else none := by
  rw [numAt_here h hl hb, ← v64_eq, ← pow7]
  have D := v64_div h hi hl
  have tk : l.take (i + 1) = l.take i ++ [l[i]] := List.take_succ_eq_append_getElem h
  have li : (l.take i).length = i := by rw [List.length_take]; omega
  by_cases hv : val7 (l.take (i + 1)) < 18446744073709551616
  · have ev : v64 l (i + 1) = val7 (l.take (i + 1)) := by rw [v64_eq]; exact Nat.mod_eq_of_lt hv
    rw [ev] at D ⊢
    by_cases h0 : l[i].toNat ≠ 0 ∨ i = 0
    · have P : enc (val7 (l.take (i + 1))) = l.take (i + 1) := by
        rw [tk]
        refine enc_can _ _ (fun x hx => ?_) hl (h0.imp id fun z => by rw [z]; rfl)
        obtain ⟨j, hj, rfl⟩ := List.getElem_of_mem hx
        rw [List.getElem_take]
        exact hb j (by omega)
      rw [if_pos P, if_pos ⟨h0, D.2 hv⟩]
    · have P : ¬ enc (val7 (l.take (i + 1))) = l.take (i + 1) := by
        have h1 : ¬ i = 0 := fun z => h0 (Or.inr z)
        have h2 : l[i].toNat = 0 := Decidable.byContradiction fun z => h0 (Or.inl z)
        have hne : l.take i ≠ [] := by intro z; rw [z] at li; simp at li; omega
        rw [tk]
        exact enc_not hne h2 rfl
      rw [if_neg P, if_neg (fun x => h0 x.1)]
  · have P : ¬ enc (v64 l (i + 1)) = l.take (i + 1) := by
      intro he
      have := val7_enc (v64 l (i + 1))
      rw [he] at this
      have := v64_lt l (i + 1)
      omega
    rw [if_neg P, if_neg (fun x => hv (D.1 x.2))]
/-- The number that begins here, if it is at most so much. -/
@[irreducible] def numM (l : List UInt8) (most : Nat) : Option (Nat × Nat) := if (numOf l).2 ≠ 0 ∧ (numOf l).1 ≤ most then some (numOf l) else none
theorem numM_eq (l : List UInt8) (most : Nat) : numM l most = if (numOf l).2 ≠ 0 ∧ (numOf l).1 ≤ most then some (numOf l) else none := by unfold numM; rfl
theorem numM_none {l : List UInt8} {most : Nat} (h : numAt l = none) : numM l most = none := by rw [numM_eq, numOf_none h]; simp
theorem numM_yes {l : List UInt8} {most n k : Nat} (h : numAt l = some (n, k + 1)) (hm : n ≤ most) : numM l most = some (n, k + 1) := by rw [numM_eq, numOf_some h]; simp [hm]
theorem numM_more {l : List UInt8} {most n k : Nat} (h : numAt l = some (n, k)) (hm : ¬ n ≤ most) : numM l most = none := by rw [numM_eq, numOf_some h]; simp; omega
theorem readN_numM (s : ByteArray) (p : Int) (lo : Bool) (most : Nat) : readN s p lo most = if okR s.size p lo = true then numM (L (restB s p lo)) most else none := by
  rw [numM_eq]
  by_cases h : okR s.size p lo = true
  · rw [if_pos h]
    by_cases c : (numOf (L (restB s p lo))).2 ≠ 0 ∧ (numOf (L (restB s p lo))).1 ≤ most
    · rw [if_pos c, readN_some ⟨h, c⟩]
    · rw [if_neg c, readN_none fun x => c x.2]
  · rw [if_neg h, readN_none fun x => h x.1]
theorem numM_le {l : List UInt8} {most n k : Nat} (h : numM l most = some (n, k)) : k ≤ l.length ∧ n ≤ most ∧ n < 18446744073709551616 := by
  rw [numM_eq] at h
  have q := numOf_le l
  split at h
  · rename_i c
    injection h with h
    rw [h] at c q
    exact ⟨q.1, c.2, q.2⟩
  · cases h
end Go.Proofs.Ythbgbgobfoecoaa
