/- The document's answers: the walk of Nat. Plain: what is written is read; what is read would be written so. Plain: limbs that are read. Plain arithmetic: the order of numbers by their limbs; naturals. The walks of Right, trim, Cmp, fitting. The walks of Compare, Cmp, Bits, fitting. Bits of words of 32 and 64 bits; how many bits a number has. The walks of Add32, Sub32, Div32, Bits, fitting. -/
import Derived.Test.YtacobmnghdibaaaJ01
import Derived.Test.YtacobmnghdibaaaJ00
import Derived.Test.YtacobmnghdibaaaShelf
import Derived.Laws.BitsAllLaws
import Derived.Laws.BitsLemmas
import Derived.Lib.BitFns
namespace Go.Proofs.Ytacobmnghdibaaa
open Go.RowKit
set_option linter.unusedVariables false
set_option linter.unusedSimpArgs false
set_option maxHeartbeats 1000000
set_option maxRecDepth 100000
/-- Limbs, in four bytes each. -/
def lbs : List Nat → List UInt8
  | [] => []
  | x :: xs => leb x 4 ++ lbs xs
theorem lbs_nil : lbs [] = [] := rfl
theorem lbs_cons (x : Nat) (xs : List Nat) : lbs (x :: xs) = leb x 4 ++ lbs xs := rfl
theorem lbs_app (xs ys : List Nat) : lbs (xs ++ ys) = lbs xs ++ lbs ys := by
  induction xs with
  | nil => rw [lbs_nil]; rfl
  | cons x xs ih => rw [List.cons_append, lbs_cons, lbs_cons, ih, List.append_assoc]
theorem lbs_len (xs : List Nat) : (lbs xs).length = 4 * xs.length := by
  induction xs with
  | nil => rw [lbs_nil]; rfl
  | cons x xs ih => rw [lbs_cons, List.length_append, leb_len, ih, List.length_cons]; omega
/-- Limbs as they are written. -/
abbrev natS (xs : List Nat) : List UInt8 := enc xs.length ++ lbs xs
theorem lbs_take {xs : List Nat} {i : Nat} (h : i < xs.length) : lbs (xs.take (i + 1)) = lbs (xs.take i) ++ leb xs[i] 4 := by
  rw [List.take_succ_eq_append_getElem h, lbs_app, lbs_cons, lbs_nil, List.append_nil]
theorem refNat_any {A : Option Addr} {n c : Nat} {xs : List Nat} {w : World} (h : Lim w A n c xs) (hn : n ≤ 1000) : Calls Try.prog 12 #[.slice A n c] w fun e w' => e = .returned (.string (bs (natS xs))) ∧ Below w.heap.size w w' := by
  have KN : Hid (∀ W : World, Calls Try.prog 15 #[.int .u64 (n : Int)] W fun e w' => e = .returned (.string (bs (enc n))) ∧ Below W.heap.size W w') := fun W => refNumber_any n (by omega) W
  have HL := Lib.hid h
  have LX := Lib.hid h.len
  have EL : (enc n).length ≤ 10 := enc_ten (by omega)
  have E0 : Hid (L (bs (enc n)) = enc n ++ lbs (xs.take 0)) := by unfold Hid; rw [L_bs, List.take_zero, lbs_nil, List.append_nil]
  clear h
  go_enter Try.func12, Try.ntmps12
  go_wp2_with fail
  refine (KN.out _).mono ?_
  rintro e W1 ⟨rfl, B1⟩
  generalize bs (enc n) = s0 at *
  go_wp2_with fail
  go_loopg [3, 4] n (fun q s2 s3 wr => ∃ (s : ByteArray) (i : Nat), i + q = n ∧ s2 = .string s ∧ s3 = .int .i64 (i : Int) ∧ Hid (L s = enc n ++ lbs (xs.take i)) ∧ Below w.heap.size w wr)
  case atStart => exact ⟨s0, 0, by omega, rfl, rfl, E0, B1⟩
  case round =>
    obtain ⟨s, i, hq, rfl, rfl, hs, BL⟩ := hrel
    have HQ := Lib.hid hq
    by_cases lt : i < n
    · have il : (i : Int) < n := by omega
      have il0 : (0 : Int) ≤ i := by omega
      have i1 : i < xs.length := by rw [LX.out]; exact lt
      obtain ⟨ad, rfl, c1⟩ := (HL.out.next BL).at_ i i1
      have bx := HL.out.lo.at_ i i1
      have ST : Hid (L (s ++ bs (leb xs[i] 4)) = enc n ++ lbs (xs.take (i + 1))) := by
        refine (L_app _ _).trans ((congrArg (fun l => l ++ L (bs (leb xs[i] 4))) hs.out).trans ?_)
        rw [lbs_take i1, List.append_assoc]
      have SZ : s.size ≤ 10 + 4 * i := by
        have e := congrArg List.length hs.out
        rw [List.length_append, lbs_len, List.length_take] at e
        have e2 := L_len s
        omega
      generalize xs[i] = x at *
      have KB : Hid (∀ W : World, Calls Try.prog 31 #[.int .u64 (x : Int), .int .i64 4] W fun e w' => e = .returned (.string (bs (leb x 4))) ∧ Below W.heap.size W w') := fun W => refBytes_any x 4 (by omega) (by decide) W
      have S4 : (bs (leb x 4)).size = 4 := by rw [bs_size, leb_len]
      generalize bs (leb x 4) = y at *
      have wx : IntKind.u64.wrap (x : Int) = x := by rw [IntKind.wrap_u64]; omega
      have hadd : ∀ W : World, (Op.stringOp .add s y).run Try.prog W = .ok (.string (s ++ y)) W := fun W => run_string_add_sum W s y (by omega)
      clear hq hs
      go_wp2_with fail
      refine (KB.out _).mono ?_
      rintro e W3 ⟨rfl, B3⟩
      have BW := Lib.hid (below_step BL B3)
      clear B3 BL
      go_wp2_with fail
      go_roundg (gk - 1)
      case measure => have := HQ.out; omega
      case rel =>
        go_light
        exact ⟨s ++ y, i + 1, by have := HQ.out; omega, rfl, by go_num, ST, BW.out⟩
    · obtain rfl : i = n := by omega
      have il : ¬ (i : Int) < i := by omega
      have ES : Hid (s = bs (natS xs)) := by
        refine L_inj ?_
        refine hs.out.trans ?_
        rw [L_bs, List.take_of_length_le (by rw [LX.out]; exact Nat.le_refl _)]
        exact congrArg (fun m => enc m ++ lbs xs) LX.out.symm
      clear hs hq
      go_wp2_with fail
      go_ret
      exact ⟨by rw [← ES.out]; rfl, BL⟩
end Go.Proofs.Ytacobmnghdibaaa
namespace Go.Proofs.Ytacobmnghdibaaa
open Go.RowKit
set_option linter.unusedVariables false
set_option linter.unusedSimpArgs false
theorem numAt_app {n : Nat} (h : n < 18446744073709551616) (r : List UInt8) : numAt (enc n ++ r) = some (n, (enc n).length) :=
  numAt_iff.2 ⟨h, rfl, by rw [List.take_left']; rfl⟩
theorem numOf_app {n : Nat} (h : n < 18446744073709551616) (r : List UInt8) : numOf (enc n ++ r) = (n, (enc n).length) := numOf_some (numAt_app h r)
theorem numOf_yes {l : List UInt8} (h : (numOf l).2 ≠ 0) : enc (numOf l).1 = l.take (numOf l).2 ∧ (numOf l).1 < 18446744073709551616 := by
  cases e : numAt l with
  | none => rw [numOf_none e] at h; exact absurd rfl h
  | some x =>
    obtain ⟨n, k⟩ := x
    rw [numOf_some e]
    obtain ⟨a, b, c⟩ := numAt_iff.1 e
    exact ⟨c.symm, a⟩
theorem enc_more {n : Nat} (h : ¬ n < 128) : (enc n).length = (enc (n / 128)).length + 1 := by rw [enc_high h, List.length_cons]
theorem enc_one {n : Nat} (h : n < 128) : (enc n).length = 1 := by rw [enc_low h]; rfl
theorem restB_at {s : ByteArray} {i : Nat} {a b : List UInt8} (h : L s = a ++ b) (hi : i = a.length) : L (restB s i false) = b := by
  have e : (L s).length = a.length + b.length := by rw [h, List.length_append]
  rw [L_len] at e
  rw [restB_L (by omega), h, hi, List.drop_left']; rfl
/-- A number that is written is read. -/
theorem readN_back {s : ByteArray} {i n most : Nat} {a b : List UInt8} (h : L s = a ++ (enc n ++ b)) (hi : i = a.length) (hn : n < 18446744073709551616) (hm : n ≤ most) : readN s i false most = some (n, (enc n).length) := by
  have e : (L s).length = a.length + (enc n ++ b).length := by rw [h, List.length_append]
  rw [L_len] at e
  have R := restB_at h hi
  have p := enc_pos n
  rw [readN_some ⟨okR_at (by omega), by rw [R, numOf_app hn]; show (enc n).length ≠ 0; omega, by rw [R, numOf_app hn]; exact hm⟩, R, numOf_app hn]
/-- A number that is read would be written so. -/
theorem readN_once {s : ByteArray} {most n k : Nat} (h : readN s 0 false most = some (n, k)) : bs (enc n) = s.extract 0 k ∧ n < 18446744073709551616 := by
  by_cases c : okR s.size 0 false = true ∧ (numOf (L (restB s 0 false))).2 ≠ 0 ∧ (numOf (L (restB s 0 false))).1 ≤ most
  · rw [readN_some c] at h
    injection h with h
    obtain ⟨e, l⟩ := numOf_yes c.2.1
    rw [h] at e l
    have R : L (restB s (0 : Nat) false) = L s := by rw [restB_L (Nat.zero_le _), List.drop_zero]
    refine ⟨L_inj ?_, l⟩
    rw [L_bs, L_take]
    exact e.trans (congrArg (List.take k) R)
  · rw [readN_none c] at h; cases h
/-- A text that is written is read. -/
theorem readT_back {s t : ByteArray} {i : Nat} {most : Int} {a b : List UInt8} (h : L s = a ++ (enc t.size ++ (L t ++ b))) (hi : i = a.length) (hn : t.size < 18446744073709551616) (hm : (t.size : Int) ≤ most) :
    readT s i false most = some (t.size, (enc t.size).length) ∧ textB (restB s i false) (some (t.size, (enc t.size).length)) = t := by
  have e : (L s).length = a.length + (enc t.size ++ (L t ++ b)).length := by rw [h, List.length_append]
  rw [L_len] at e
  have R := restB_at h hi
  have p := enc_pos t.size
  have q : (restB s i false).size = (enc t.size).length + (t.size + b.length) := by
    rw [← L_len, R, List.length_append, List.length_append, L_len]
  refine ⟨?_, ?_⟩
  · rw [readT_some ⟨okR_at (by omega), by rw [R, numOf_app hn]; show (enc t.size).length ≠ 0; omega, by omega, by rw [R, numOf_app hn]; exact hm, by rw [R, numOf_app hn]; show t.size + (enc t.size).length ≤ _; omega⟩, R, numOf_app hn]
  · refine L_inj ?_
    rw [textB_some, L_ext, R, List.drop_left' rfl, Nat.add_sub_cancel_left, List.take_left' (L_len t)]
/-- A text that is read would be written so. -/
theorem readT_once {s : ByteArray} {most : Int} {n k : Nat} (h : readT s 0 false most = some (n, k)) :
    bs (enc n) ++ textB (restB s 0 false) (some (n, k)) = s.extract 0 (n + k) ∧ (textB (restB s 0 false) (some (n, k))).size = n ∧ n < 18446744073709551616 := by
  by_cases c : okR s.size 0 false = true ∧ (numOf (L (restB s 0 false))).2 ≠ 0 ∧ 0 ≤ most ∧ ((numOf (L (restB s 0 false))).1 : Int) ≤ most ∧ (numOf (L (restB s 0 false))).1 + (numOf (L (restB s 0 false))).2 ≤ (restB s 0 false).size
  · rw [readT_some c] at h
    injection h with h
    obtain ⟨e, l⟩ := numOf_yes c.2.1
    have f := c.2.2.2.2
    rw [h] at e l f
    have R : L (restB s (0 : Nat) false) = L s := by rw [restB_L (Nat.zero_le _), List.drop_zero]
    have R' : restB s 0 false = s := L_inj R
    rw [R'] at e f ⊢
    refine ⟨L_inj ?_, ?_, l⟩
    · rw [L_app, L_bs, e, textB_some, L_ext, L_take, Nat.add_sub_cancel_left, Nat.add_comm n k, List.take_add]
    · rw [textB_some, ByteArray.size_extract]
      change n + k ≤ s.size at f
      omega
  · rw [readT_none c] at h; cases h
/-- A number of 128 bits that is written is read. -/
theorem readW_back {s : ByteArray} {i h l : Nat} {a b : List UInt8} (e : L s = a ++ (leb l 8 ++ (leb h 8 ++ b))) (hi : i = a.length) (hh : h < 18446744073709551616) (hl : l < 18446744073709551616) :
    readW s i false = some 16 ∧ wideB (restB s i false) (some 16) = (h, l) := by
  have f : (L s).length = a.length + (leb l 8 ++ (leb h 8 ++ b)).length := by rw [e, List.length_append]
  rw [L_len, List.length_append, List.length_append, leb_len, leb_len] at f
  have R := restB_at e hi
  have q : (restB s i false).size = 8 + (8 + b.length) := by
    rw [← L_len, R, List.length_append, List.length_append, leb_len, leb_len]
  refine ⟨readW_some ⟨okR_at (by omega), by omega⟩, ?_⟩
  rw [wideB_some, L_ext, L_ext, R, List.drop_left' (leb_len l 8), List.drop_zero, List.take_left' (leb_len h 8), List.take_left' (leb_len l 8), vle_leb (k := 8) (Nat.lt_of_lt_of_le hh (by decide)), vle_leb (k := 8) (Nat.lt_of_lt_of_le hl (by decide))]
end Go.Proofs.Ytacobmnghdibaaa
namespace Go.Proofs.Ytacobmnghdibaaa
open Go.RowKit
set_option linter.unusedVariables false
set_option linter.unusedSimpArgs false
/-- A number of 128 bits that is read would be written so. -/
theorem readW_once {s : ByteArray} {k : Nat} (h : readW s 0 false = some k) :
    k = 16 ∧ bs (leb (wideB (restB s 0 false) (some k)).2 8 ++ leb (wideB (restB s 0 false) (some k)).1 8) = s.extract 0 16 ∧ (wideB (restB s 0 false) (some k)).1 < 18446744073709551616 ∧ (wideB (restB s 0 false) (some k)).2 < 18446744073709551616 := by
  by_cases c : okR s.size 0 false = true ∧ 16 ≤ (restB s 0 false).size
  · rw [readW_some c] at h
    injection h with h
    have R : L (restB s (0 : Nat) false) = L s := by rw [restB_L (Nat.zero_le _), List.drop_zero]
    have R' : restB s 0 false = s := L_inj R
    have f := c.2
    rw [R'] at f ⊢
    rw [wideB_some, L_ext, L_ext, List.drop_zero]
    have e1 : ((L s).take (8 - 0)).length = 8 := by rw [List.length_take, L_len]; omega
    have e2 : (((L s).drop 8).take (16 - 8)).length = 8 := by rw [List.length_take, List.length_drop, L_len]; omega
    refine ⟨h.symm, L_inj ?_, ?_, ?_⟩
    · have a1 := leb_vle ((L s).take (8 - 0))
      have a2 := leb_vle (((L s).drop 8).take (16 - 8))
      rw [e1] at a1
      rw [e2] at a2
      rw [L_bs, L_take]
      dsimp only
      rw [a1, a2, show (16 : Nat) = 8 + 8 from rfl, List.take_add]
    · have := vle_lt (((L s).drop 8).take (16 - 8))
      rw [e2] at this
      exact Nat.lt_of_lt_of_le this (by decide)
    · have := vle_lt ((L s).take (8 - 0))
      rw [e1] at this
      exact Nat.lt_of_lt_of_le this (by decide)
  · rw [readW_none c] at h; cases h
/-- So many limbs of bytes. -/
def lims (l : List UInt8) : Nat → List Nat
  | 0 => []
  | n + 1 => vle (l.take 4) :: lims (l.drop 4) n
theorem lims_zero (l : List UInt8) : lims l 0 = [] := rfl
theorem lims_succ (l : List UInt8) (n : Nat) : lims l (n + 1) = vle (l.take 4) :: lims (l.drop 4) n := rfl
theorem lims_len (l : List UInt8) (n : Nat) : (lims l n).length = n := by
  induction n generalizing l with
  | zero => rfl
  | succ n ih => rw [lims_succ, List.length_cons, ih]
theorem lims_snoc (l : List UInt8) (n : Nat) : lims l (n + 1) = lims l n ++ [vle ((l.drop (4 * n)).take 4)] := by
  induction n generalizing l with
  | zero => rfl
  | succ n ih => rw [lims_succ, ih, lims_succ l n, List.drop_drop, List.cons_append, show 4 * (n + 1) = 4 + 4 * n from by omega]
theorem lims_lo (l : List UInt8) (n : Nat) : Lo (lims l n) := by
  induction n generalizing l with
  | zero => intro x hx; cases hx
  | succ n ih =>
    intro x hx
    rw [lims_succ] at hx
    rcases List.mem_cons.1 hx with rfl | h
    · have := vle_lt (l.take 4)
      exact Nat.lt_of_lt_of_le this (Nat.le_trans (Nat.pow_le_pow_right (by decide) (by rw [List.length_take]; exact Nat.min_le_left _ _)) (by decide : 256 ^ 4 ≤ 4294967296))
    · exact ih _ x h
theorem lbs_lims {l : List UInt8} {n : Nat} (h : 4 * n ≤ l.length) : lbs (lims l n) = l.take (4 * n) := by
  induction n generalizing l with
  | zero => rw [lims_zero, lbs_nil, Nat.mul_zero, List.take_zero]
  | succ n ih =>
    have e : (l.take 4).length = 4 := by rw [List.length_take]; omega
    have a := leb_vle (l.take 4)
    rw [e] at a
    rw [lims_succ, lbs_cons, a, ih (by rw [List.length_drop]; omega), show 4 * (n + 1) = 4 + 4 * n from by omega, List.take_add]
theorem lims_lbs {xs : List Nat} (h : Lo xs) (r : List UInt8) : lims (lbs xs ++ r) xs.length = xs := by
  induction xs with
  | nil => rfl
  | cons x xs ih =>
    have hx : x < 256 ^ 4 := Nat.lt_of_lt_of_le (h x (List.mem_cons_self)) (by decide)
    rw [List.length_cons, lims_succ, lbs_cons, List.append_assoc, List.take_left' (leb_len x 4), List.drop_left' (leb_len x 4), vle_leb hx, ih (fun y hy => h y (List.mem_cons_of_mem _ hy))]
end Go.Proofs.Ytacobmnghdibaaa
namespace Go.Proofs.Ytacobmnghdibaaa
/-- Are limbs a natural's? -/
def Nt (xs : List Nat) : Prop := xs.length ≤ 64 ∧ ∀ hn : xs ≠ [], xs.getLast hn ≠ 0
theorem Nt.eq {xs : List Nat} (h : Nt xs) (k : Lo xs) : xs = limbs (val xs) := (limbs_val k h.2).symm
theorem Nt.of {a : Nat} (h : ln a ≤ 64) : Nt (limbs a) := ⟨h, fun hn => limbs_last a hn⟩
theorem pred_succ_of_pos {n : Nat} (h : 0 < n) : n - 1 + 1 = n := by omega
theorem Nt.no {xs : List Nat} (h : ¬ Nt xs) (k : xs.length ≤ 64) : ∃ j, j + 1 = xs.length ∧ xs[j]? = some 0 := by
  by_cases hn : xs = []
  · exact absurd ⟨k, fun x => absurd hn x⟩ h
  · have hl : 0 < xs.length := List.length_pos_iff.2 hn
    refine ⟨xs.length - 1, pred_succ_of_pos hl, ?_⟩
    by_cases z : xs.getLast hn = 0
    · rw [List.getLast_eq_getElem] at z
      rw [List.getElem?_eq_getElem (Nat.sub_lt hl Nat.one_pos), z]
    · exact absurd ⟨k, fun _ => z⟩ h
/-- -1, 0 or 1. -/
@[irreducible] def sgn (a b : Nat) : Int := if a < b then -1 else if b < a then 1 else 0
theorem sgn_lt {a b : Nat} (h : a < b) : sgn a b = -1 := by unfold sgn; rw [if_pos h]
theorem sgn_gt {a b : Nat} (h : b < a) : sgn a b = 1 := by unfold sgn; rw [if_neg (by omega), if_pos h]
theorem sgn_eq (a : Nat) : sgn a a = 0 := by unfold sgn; rw [if_neg (by omega), if_neg (by omega)]
theorem sgn_congr {a b c d : Nat} (h : a < b ↔ c < d) (k : b < a ↔ d < c) : sgn a b = sgn c d := by
  unfold sgn
  by_cases p : a < b
  · rw [if_pos p, if_pos (h.1 p)]
  · rw [if_neg p, if_neg (fun x => p (h.2 x))]
    by_cases q : b < a
    · rw [if_pos q, if_pos (k.1 q)]
    · rw [if_neg q, if_neg (fun x => q (k.2 x))]
theorem lt_of_ln_lt {a b : Nat} (h : ln a < ln b) : a < b := by
  apply Decidable.byContradiction
  intro k
  have := ln_mono (show b ≤ a by omega)
  omega
theorem sgn_ln {a b : Nat} (h : ln a ≠ ln b) : sgn (ln a) (ln b) = sgn a b := by
  rcases Nat.lt_or_gt_of_ne h with k | k
  · rw [sgn_lt k, sgn_lt (lt_of_ln_lt k)]
  · rw [sgn_gt k, sgn_gt (lt_of_ln_lt k)]
theorem lt_of_top {P x y s t r : Nat} (hs : s < P) (h : x < y) : s + P * (x + B * r) < t + P * (y + B * r) := by
  have : P * (x + B * r) + P ≤ P * (y + B * r) := by
    rw [← Nat.mul_succ]
    exact Nat.mul_le_mul_left _ (by omega)
  omega
theorem sgn_top {a b k : Nat} (ha : k < (limbs a).length) (hb : k < (limbs b).length) (he : (limbs a).drop (k + 1) = (limbs b).drop (k + 1)) (hne : (limbs a)[k] ≠ (limbs b)[k]) :
    sgn (limbs a)[k] (limbs b)[k] = sgn a b := by
  have ea := val_split (limbs a) k (by omega)
  have eb := val_split (limbs b) k (by omega)
  rw [val_limbs, val_drop _ k ha] at ea
  rw [val_limbs, val_drop _ k hb, ← he] at eb
  have la := val_take_limbs_lt a k
  have lb := val_take_limbs_lt b k
  rcases Nat.lt_or_gt_of_ne hne with h | h
  · rw [sgn_lt h, sgn_lt]
    rw [ea, eb]
    exact lt_of_top la h
  · rw [sgn_gt h, sgn_gt]
    rw [ea, eb]
    exact lt_of_top lb h
theorem drop_step {xs ys : List Nat} {k : Nat} (hx : k < xs.length) (hy : k < ys.length) (h : xs[k] = ys[k]) (he : xs.drop (k + 1) = ys.drop (k + 1)) : xs.drop k = ys.drop k := by
  rw [List.drop_eq_getElem_cons hx, List.drop_eq_getElem_cons hy, h, he]
end Go.Proofs.Ytacobmnghdibaaa
namespace Go.Proofs.Ytacobmnghdibaaa
open Go.RowKit

set_option maxRecDepth 100000 in
theorem right_yes {A : Option Addr} {n c a : Nat} {w : World} (h : Lim w A n c (limbs a)) (hm : ln a ≤ 64) : Calls Try.prog 33 #[.slice A n c] w fun e w' => e = .returned (.bool true) ∧ w = w' := by
  have hl := h.len
  rw [limbs_length] at hl
  by_cases hz : n = 0
  · subst hz
    clear h hl hm
    go_enter Try.func33, Try.ntmps33
    go_wp2
    go_ret
    exact ⟨rfl, rfl⟩
  · obtain ⟨ad, rfl⟩ := h.some_ (by omega)
    have hc := h.cell (n - 1) (by rw [limbs_length]; omega)
    have hx := last_ne_zero (a := a) (k := n - 1) (by rw [limbs_length]; omega)
    generalize (limbs a)[n - 1]'(by rw [limbs_length]; omega) = x at *
    have h1 : ((n : Int) == 0) = false := by simpa using hz
    have h2 : ((x : Int) != 0) = true := by simp; omega
    have h3 : (n : Int) ≤ 64 := by omega
    clear hl h hm hx
    go_enter Try.func33, Try.ntmps33
    go_wp2
    go_ret
    exact ⟨rfl, rfl⟩
set_option maxRecDepth 100000 in
theorem right_no {A : Option Addr} {n c : Nat} {xs : List Nat} {w : World} (h : Lim w A n c xs) (hm : ¬ Nt xs) : Calls Try.prog 33 #[.slice A n c] w fun e w' => e = .returned (.bool false) ∧ w = w' := by
  have hl := h.len
  have hz : n ≠ 0 := by
    rintro rfl
    have e := List.eq_nil_of_length_eq_zero hl
    subst e
    exact hm ⟨by simp, fun hn => absurd rfl hn⟩
  have h1 : ((n : Int) == 0) = false := by simpa using hz
  by_cases k : n ≤ 64
  · obtain ⟨j, ej, e0⟩ := Nt.no hm (by omega)
    obtain ⟨ad, rfl⟩ := h.some_ (by omega)
    have hc := h.cell (n - 1) (by omega)
    have ejn : n - 1 = j := by omega
    have e0' : xs[n - 1]'(by omega) = 0 := by
      have := (List.getElem?_eq_some_iff.1 e0).2
      simpa only [ejn] using this
    rw [e0'] at hc
    have h3 : (n : Int) ≤ 64 := by omega
    clear hl h hm e0 e0' ejn ej
    go_enter Try.func33, Try.ntmps33
    go_wp2
    go_ret
    exact ⟨rfl, rfl⟩
  · have h3 : ¬ (n : Int) ≤ 64 := by omega
    clear hl h hm
    go_enter Try.func33, Try.ntmps33
    go_wp2
    go_ret
    exact ⟨rfl, rfl⟩

theorem getLast_ne {xs : List Nat} {x : Nat} (h : xs[xs.length - 1]? = some x) (hx : x ≠ 0) : ∀ hn : xs ≠ [], xs.getLast hn ≠ 0 := by
  intro hn
  rw [List.getLast_eq_getElem]
  have := (List.getElem?_eq_some_iff.1 h).2
  rw [this]; exact hx

/-- A slice of the same limbs, there or nowhere. -/
def RetA (A : Option Addr) (xs : List Nat) (w : World) (e : Ending) (w' : World) : Prop := ∃ A' n' c', e = .returned (.slice A' n' c') ∧ Lim w A' n' c' (limbs (val xs)) ∧ (∀ ad, A' = some ad → A = some ad) ∧ w = w'
set_option maxHeartbeats 1000000 in
set_option maxRecDepth 100000 in
theorem trim_at {A : Option Addr} {n c : Nat} {xs : List Nat} {w : World} (h : Lim w A n c xs) : Calls Try.prog 81 #[.slice A n c] w fun e w' => RetA A xs w e w' := by
  have H := Lib.hid h
  have hc := h.cap; have ht := h.top
  clear h
  go_enter Try.func81, Try.ntmps81
  go_wp2_with fail
  go_loopg [0] n (fun g s0 wr => g ≤ n ∧ s0 = .slice A g c ∧ Hid (val (xs.take g) = val xs) ∧ w = wr)
  case atStart => exact ⟨Nat.le_refl _, rfl, by unfold Hid; rw [List.take_of_length_le (by rw [H.out.len]; exact Nat.le_refl _)], rfl⟩
  case round =>
    obtain ⟨hg, rfl, hv, rfl⟩ := hrel
    have HT := Lib.hid (H.out.take hg)
    by_cases hz : gk = 0
    · subst hz
      have HV : Hid (limbs (val xs) = []) := by unfold Hid; rw [← hv.out]; simp [val_nil, limbs_zero]
      go_wp2_with fail
      go_ret
      exact ⟨none, 0, 0, rfl, by rw [HV.out]; exact Lim.none_ _ _ _ (by omega), (fun _ e => by cases e), rfl⟩
    · obtain ⟨k, rfl⟩ : ∃ k, gk = k + 1 := ⟨gk - 1, by omega⟩
      obtain ⟨ad, rfl⟩ := H.out.some_ (by omega)
      have hkx : k < xs.length := by rw [H.out.len]; omega
      have hcell := H.out.cell k hkx
      by_cases hx : xs[k] = 0
      · have HV : Hid (val (xs.take k) = val xs) := by
          unfold Hid; rw [← hv.out, val_take_succ xs k hkx, hx, Nat.mul_zero, Nat.add_zero]
        rw [hx] at hcell
        clear hx hv HT
        go_wp2_with fail
        go_roundg k
        case measure => omega
        case rel => exact ⟨by omega, rfl, HV, rfl⟩
      · have HV : Hid (limbs (val xs) = xs.take (k + 1)) := by
          unfold Hid
          rw [← hv.out]
          refine limbs_val (H.out.lo.take _) (getLast_ne (x := xs[k]) ?_ hx)
          rw [List.length_take, Nat.min_eq_left (by omega), Nat.add_sub_cancel, List.getElem?_take, if_pos (by omega), List.getElem?_eq_getElem hkx]
        generalize xs[k] = x at *
        have h2 : ((x : Int) == 0) = false := by simpa using hx
        clear hx hv
        go_wp2_with fail
        go_ret
        exact ⟨_, _, _, rfl, by rw [HV.out]; exact HT.out, (fun _ e => e), rfl⟩
theorem trim_any {A : Option Addr} {n c : Nat} {xs : List Nat} {w : World} (h : Lim w A n c xs) : Calls Try.prog 81 #[.slice A n c] w fun e w' => ∃ A' n' c', e = .returned (.slice A' n' c') ∧ Lim w A' n' c' (limbs (val xs)) ∧ w = w' :=
  (trim_at h).mono fun _ _ ⟨A', n', c', h1, h2, _, h4⟩ => ⟨A', n', c', h1, h2, h4⟩
end Go.Proofs.Ytacobmnghdibaaa
namespace Go.Proofs.Ytacobmnghdibaaa
open Go.RowKit

theorem drew3 (w : World) (a b c : Nat) : ∃ k, ((w.drewN a).drewN b).drewN c = w.drewN k := ⟨_, by rw [World.drewN_drewN, World.drewN_drewN]⟩
theorem isNaN_int (x : Int) (w : World) : Calls Try.prog 91 #[.int .i64 x] w fun e w' => e = .returned (.bool false) ∧ w = w' := by
  have h : (x != x) = false := by simp
  go_enter Try.func91, Try.ntmps91
  go_wp2
  go_ret
  exact ⟨rfl, rfl⟩
theorem isNaN_u32 (x : Int) (w : World) : Calls Try.prog 92 #[.int .u32 x] w fun e w' => e = .returned (.bool false) ∧ w = w' := by
  have h : (x != x) = false := by simp
  go_enter Try.func92, Try.ntmps92
  go_wp2
  go_ret
  exact ⟨rfl, rfl⟩
set_option maxRecDepth 100000 in
theorem compare_int (x y : Nat) (w : World) : Calls Try.prog 85 #[.int .i64 x, .int .i64 y] w fun e w' => e = .returned (.int .i64 (sgn x y)) ∧ w = w' := by
  have H : x < y ∧ Hid (sgn x y = -1) ∧ (x : Int) < y ∨ ¬ x < y ∧ y < x ∧ Hid (sgn x y = 1) ∧ (y : Int) < x ∧ ¬ (x : Int) < y ∨ x = y := by
    rcases Nat.lt_trichotomy x y with h | h | h
    · exact Or.inl ⟨h, sgn_lt h, by omega⟩
    · exact Or.inr (Or.inr h)
    · exact Or.inr (Or.inl ⟨by omega, h, sgn_gt h, by omega, by omega⟩)
  rcases H with ⟨h, e, h1⟩ | ⟨h, h', e, h1, h2⟩ | rfl
  · go_enter Try.func85, Try.ntmps85
    go_wp2_with (go_at_call 91; refine (isNaN_int _ _).mono ?_; rintro e w' ⟨rfl, rfl⟩)
    go_ret
    exact ⟨by rw [e.out]; rfl, rfl⟩
  · go_enter Try.func85, Try.ntmps85
    go_wp2_with (go_at_call 91; refine (isNaN_int _ _).mono ?_; rintro e w' ⟨rfl, rfl⟩)
    go_ret
    exact ⟨by rw [e.out]; rfl, rfl⟩
  · have e := Lib.hid (sgn_eq x)
    have h1 : ¬ (x : Int) < x := by omega
    go_enter Try.func85, Try.ntmps85
    go_wp2_with (go_at_call 91; refine (isNaN_int _ _).mono ?_; rintro e w' ⟨rfl, rfl⟩)
    go_ret
    exact ⟨by rw [e.out]; rfl, rfl⟩
set_option maxRecDepth 100000 in
theorem compare_u32 (x y : Nat) (w : World) : Calls Try.prog 86 #[.int .u32 x, .int .u32 y] w fun e w' => e = .returned (.int .i64 (sgn x y)) ∧ w = w' := by
  have H : x < y ∧ Hid (sgn x y = -1) ∧ (x : Int) < y ∨ ¬ x < y ∧ y < x ∧ Hid (sgn x y = 1) ∧ (y : Int) < x ∧ ¬ (x : Int) < y ∨ x = y := by
    rcases Nat.lt_trichotomy x y with h | h | h
    · exact Or.inl ⟨h, sgn_lt h, by omega⟩
    · exact Or.inr (Or.inr h)
    · exact Or.inr (Or.inl ⟨by omega, h, sgn_gt h, by omega, by omega⟩)
  rcases H with ⟨h, e, h1⟩ | ⟨h, h', e, h1, h2⟩ | rfl
  · go_enter Try.func86, Try.ntmps86
    go_wp2_with (go_at_call 92; refine (isNaN_u32 _ _).mono ?_; rintro e w' ⟨rfl, rfl⟩)
    go_ret
    exact ⟨by rw [e.out]; rfl, rfl⟩
  · go_enter Try.func86, Try.ntmps86
    go_wp2_with (go_at_call 92; refine (isNaN_u32 _ _).mono ?_; rintro e w' ⟨rfl, rfl⟩)
    go_ret
    exact ⟨by rw [e.out]; rfl, rfl⟩
  · have e := Lib.hid (sgn_eq x)
    have h1 : ¬ (x : Int) < x := by omega
    go_enter Try.func86, Try.ntmps86
    go_wp2_with (go_at_call 92; refine (isNaN_u32 _ _).mono ?_; rintro e w' ⟨rfl, rfl⟩)
    go_ret
    exact ⟨by rw [e.out]; rfl, rfl⟩

set_option maxHeartbeats 1000000 in
set_option maxRecDepth 100000 in
theorem cmp_any {A A' : Option Addr} {n c n' c' a b : Nat} {w : World} (ha : Lim w A n c (limbs a)) (hb : Lim w A' n' c' (limbs b)) (la : ln a ≤ 64) (lb : ln b ≤ 64) :
    Calls Try.prog 62 #[.slice A n c, .slice A' n' c'] w fun e w' => e = .returned (.int .i64 (sgn a b)) ∧ ∃ m, w' = w.drewN m := by
  have HA := Lib.hid ha; have HB := Lib.hid hb
  have hl := ha.len; have hl' := hb.len
  rw [limbs_length] at hl hl'
  have RA := Lib.hid (right_yes ha la); have RB := Lib.hid (right_yes hb lb)
  by_cases hn : n = n'
  · subst hn
    have EL : Hid (ln a = n) := hl; have EL' : Hid (ln b = n) := hl'
    have n64 : n ≤ 64 := by omega
    have h0 : ((n : Int) != n) = false := by simp
    clear ha hb hl hl' la lb
    go_enter Try.func62, Try.ntmps62
    go_wp2_with fail
    refine (RA.out).mono ?_
    rintro e w' ⟨rfl, rfl⟩
    go_wp2_with fail
    refine (RB.out).mono ?_
    rintro e w' ⟨rfl, rfl⟩
    go_wp2_with fail
    go_loopg [5] n (fun g s5 wr => ∃ m, g ≤ n ∧ s5 = .int .i64 ((g : Int) - 1) ∧ Hid ((limbs a).drop g = (limbs b).drop g) ∧ wr = w.drewN m)
    case atStart => exact ⟨0, Nat.le_refl _, rfl, by unfold Hid; rw [List.drop_of_length_le (by rw [limbs_length, EL.out]; exact Nat.le_refl _), List.drop_of_length_le (by rw [limbs_length, EL'.out]; exact Nat.le_refl _)], rfl⟩
    case round =>
      obtain ⟨m, hg, rfl, hv, rfl⟩ := hrel
      by_cases hz : gk = 0
      · subst hz
        have ES : Hid (sgn a b = 0) := by
          have : limbs a = limbs b := by simpa using hv.out
          unfold Hid
          rw [limbs_inj this, sgn_eq]
        have ek : ((0 : Nat) : Int) - 1 = -1 := by omega
        rw [ek]
        clear ek
        go_wp2_with fail
        go_ret
        exact ⟨by rw [ES.out]; rfl, _, rfl⟩
      · obtain ⟨k, rfl⟩ : ∃ k, gk = k + 1 := ⟨gk - 1, by omega⟩
        have ek : ((k + 1 : Nat) : Int) - 1 = (k : Int) := by omega
        rw [ek]
        obtain ⟨ad, rfl⟩ := HA.out.some_ (by omega)
        obtain ⟨ad', rfl⟩ := HB.out.some_ (by omega)
        have ka : k < (limbs a).length := by rw [limbs_length, EL.out]; omega
        have kb : k < (limbs b).length := by rw [limbs_length, EL'.out]; omega
        have c1 := HA.out.cell k ka
        have c2 := HB.out.cell k kb
        by_cases hx : (limbs a)[k] = (limbs b)[k]
        · have HV : Hid ((limbs a).drop k = (limbs b).drop k) := drop_step ka kb hx hv.out
          rw [← hx] at c2
          generalize (limbs a)[k] = x at *
          have h2 : ((x : Int) != x) = false := by simp
          clear hx ek
          go_wp2_with fail
          go_quiet (fail)
          go_wp2_with fail
          go_roundg k
          case measure => omega
          case rel => exact ⟨_, by omega, rfl, HV, rfl⟩
        · have ES := Lib.hid (sgn_top ka kb hv.out hx)
          generalize (limbs a)[k] = x at *
          generalize (limbs b)[k] = y at *
          have h2 : ((x : Int) != y) = true := by simp; omega
          clear hx ek
          go_wp2_with fail
          go_quiet (fail)
          go_wp2_with fail
          go_quiet ((go_at_call 86; exact (compare_u32 _ _ _).mono (fun _ _ ⟨he, hw⟩ => ⟨he, _, hw.symm⟩)))
          go_wp2_with fail
          go_ret
          exact ⟨by rw [ES.out]; rfl, drew3 _ _ _ _⟩
  · have ES := Lib.hid (sgn_ln (a := a) (b := b) (by omega))
    rw [hl, hl'] at ES
    have h0 : ((n : Int) != n') = true := by simp; omega
    clear ha hb hl hl' la lb
    go_enter Try.func62, Try.ntmps62
    go_wp2_with fail
    refine (RA.out).mono ?_
    rintro e w' ⟨rfl, rfl⟩
    go_wp2_with fail
    refine (RB.out).mono ?_
    rintro e w' ⟨rfl, rfl⟩
    go_wp2_with fail
    refine (compare_int _ _ _).mono ?_
    rintro e w' ⟨rfl, rfl⟩
    go_wp2_with fail
    go_ret
    exact ⟨by rw [ES.out]; rfl, 0, rfl⟩

set_option maxRecDepth 100000 in
theorem cmp_none {A A' : Option Addr} {n c n' c' : Nat} {xs ys : List Nat} {w : World} (ha : Lim w A n c xs) (hb : Lim w A' n' c' ys) (h : ¬ (Nt xs ∧ Nt ys)) :
    Calls Try.prog 62 #[.slice A n c, .slice A' n' c'] w fun e w' => e = .returned (.int .i64 0) ∧ w = w' := by
  by_cases ka : Nt xs
  · have RA := Lib.hid (right_yes (ka.eq ha.lo ▸ ha) (by unfold ln; rw [← ka.eq ha.lo]; exact ka.1))
    have RB := Lib.hid (right_no hb (fun x => h ⟨ka, x⟩))
    clear ha hb h ka
    go_enter Try.func62, Try.ntmps62
    go_wp2_with fail
    refine (RA.out).mono ?_
    rintro e w' ⟨rfl, rfl⟩
    go_wp2_with fail
    refine (RB.out).mono ?_
    rintro e w' ⟨rfl, rfl⟩
    go_wp2_with fail
    go_ret
    exact ⟨rfl, rfl⟩
  · have RA := Lib.hid (right_no ha ka)
    clear ha hb h ka
    go_enter Try.func62, Try.ntmps62
    go_wp2_with fail
    refine (RA.out).mono ?_
    rintro e w' ⟨rfl, rfl⟩
    go_wp2_with fail
    go_ret
    exact ⟨rfl, rfl⟩
end Go.Proofs.Ytacobmnghdibaaa
namespace Go.Proofs.Ytacobmnghdibaaa
open Go

theorem ofInt_u32 (a : Nat) (ha : a < 4294967296) : (BitVec.ofInt 32 (a : Int)).toNat = a := by
  rw [BitVec.ofInt_natCast, BitVec.toNat_ofNat]; exact Nat.mod_eq_of_lt (by omega)
theorem ofInt_u64 (a : Nat) (ha : a < 18446744073709551616) : (BitVec.ofInt 64 (a : Int)).toNat = a := by
  rw [BitVec.ofInt_natCast, BitVec.toNat_ofNat]; exact Nat.mod_eq_of_lt (by omega)
theorem u32_and_nat (a b : Nat) (ha : a < 4294967296) (hb : b < 4294967296) : bits .and .u32 (a : Int) (b : Int) = ((a &&& b : Nat) : Int) := by
  have hx : a &&& b < 2 ^ 32 := Nat.and_lt_two_pow _ (by omega)
  show IntKind.u32.wrap ((BitVec.ofInt 32 (a : Int) &&& BitVec.ofInt 32 (b : Int)).toNat : Int) = _
  rw [BitVec.toNat_and, ofInt_u32 a ha, ofInt_u32 b hb, IntKind.wrap_u32]
  omega
theorem u32_or_nat (a b : Nat) (ha : a < 4294967296) (hb : b < 4294967296) : bits .or .u32 (a : Int) (b : Int) = ((a ||| b : Nat) : Int) := by
  have hx : a ||| b < 2 ^ 32 := Nat.or_lt_two_pow (by omega) (by omega)
  show IntKind.u32.wrap ((BitVec.ofInt 32 (a : Int) ||| BitVec.ofInt 32 (b : Int)).toNat : Int) = _
  rw [BitVec.toNat_or, ofInt_u32 a ha, ofInt_u32 b hb, IntKind.wrap_u32]
  omega
theorem u32_xor_nat (a b : Nat) (ha : a < 4294967296) (hb : b < 4294967296) : bits .xor .u32 (a : Int) (b : Int) = ((a ^^^ b : Nat) : Int) := by
  have hx : a ^^^ b < 2 ^ 32 := Nat.xor_lt_two_pow (by omega) (by omega)
  show IntKind.u32.wrap ((BitVec.ofInt 32 (a : Int) ^^^ BitVec.ofInt 32 (b : Int)).toNat : Int) = _
  rw [BitVec.toNat_xor, ofInt_u32 a ha, ofInt_u32 b hb, IntKind.wrap_u32]
  omega
theorem u64_or_nat (a b : Nat) (ha : a < 18446744073709551616) (hb : b < 18446744073709551616) : bits .or .u64 (a : Int) (b : Int) = ((a ||| b : Nat) : Int) := by
  have hx : a ||| b < 2 ^ 64 := Nat.or_lt_two_pow (by omega) (by omega)
  show IntKind.u64.wrap ((BitVec.ofInt 64 (a : Int) ||| BitVec.ofInt 64 (b : Int)).toNat : Int) = _
  rw [BitVec.toNat_or, ofInt_u64 a ha, ofInt_u64 b hb, IntKind.wrap_u64]
  omega
theorem u32_max : IntKind.u32.max = ((4294967295 : Nat) : Int) := by decide
/-- What lies apart is added. -/
theorem or_apart (x y k : Nat) (hy : y < 2 ^ k) : x * 2 ^ k ||| y = x * 2 ^ k + y := by
  rw [Nat.mul_comm, ← Nat.two_pow_add_eq_or_of_lt hy]
theorem u64_or_up (x y : Nat) (hx : x < 4294967296) (hy : y < 4294967296) : bits .or .u64 ((x : Int) * 4294967296) (y : Int) = (x : Int) * 4294967296 + (y : Int) := by
  have e : (x : Int) * 4294967296 = ((x * 4294967296 : Nat) : Int) := by omega
  rw [e, u64_or_nat _ _ (by omega) (by omega)]
  have := or_apart x y 32 (by omega)
  rw [show (2 : Nat) ^ 32 = 4294967296 by decide] at this
  omega

theorem tb31 (x : Nat) (h : x < 4294967296) : x.testBit 31 = decide (2147483648 ≤ x) := by
  rw [Nat.testBit_eq_decide_div_mod_eq]
  have : x / 2 ^ 31 % 2 = 1 ↔ 2147483648 ≤ x := by omega
  simp only [this]
theorem top31 (x : Nat) (h : x < 4294967296) : x / 2147483648 = if x.testBit 31 = true then 1 else 0 := by
  rw [tb31 x h]
  by_cases k : 2147483648 ≤ x
  · rw [if_pos (by simpa using k)]; omega
  · rw [if_neg (by simpa using k)]; omega
/-- 1 or 0. -/
@[irreducible] def bor (x y : Nat) : Nat := if x < y then 1 else 0
theorem bor_yes {x y : Nat} (h : x < y) : bor x y = 1 := by unfold bor; rw [if_pos h]
theorem bor_no {x y : Nat} (h : ¬ x < y) : bor x y = 0 := by unfold bor; rw [if_neg h]
theorem bor_le (x y : Nat) : bor x y ≤ 1 := by unfold bor; split <;> omega
theorem borrow_top (x y c d : Nat) (hx : x < 4294967296) (hy : y < 4294967296) (hc : c ≤ 1) (hd : d = (x + 4294967296 + 4294967296 - y - c) % 4294967296) :
    (((4294967295 ^^^ x) &&& y) ||| ((4294967295 ^^^ (x ^^^ y)) &&& d)) / 2147483648 = bor x (y + c) := by
  have hd' : d < 4294967296 := by rw [hd]; exact Nat.mod_lt _ (by decide)
  have l1 : (4294967295 ^^^ x) &&& y < 2 ^ 32 := Nat.and_lt_two_pow _ (by omega)
  have l2 : (4294967295 ^^^ (x ^^^ y)) &&& d < 2 ^ 32 := Nat.and_lt_two_pow _ (by omega)
  rw [top31 _ (Nat.or_lt_two_pow l1 l2), Nat.testBit_or, Nat.testBit_and, Nat.testBit_and, Nat.testBit_xor, Nat.testBit_xor, Nat.testBit_xor, tb31 x hx, tb31 y hy, tb31 d hd', show (4294967295 : Nat).testBit 31 = true by decide]
  unfold bor
  by_cases a : 2147483648 ≤ x <;> by_cases b : 2147483648 ≤ y <;> by_cases e : 2147483648 ≤ d <;> simp [a, b, e] <;> omega

/-- How many bits a number has. -/
def bl (n : Nat) : Nat := if h : n = 0 then 0 else bl (n / 2) + 1
termination_by n
decreasing_by exact Nat.div_lt_self (Nat.pos_of_ne_zero h) (by decide)
theorem bl_zero : bl 0 = 0 := by rw [bl]; rfl
theorem bl_pos {n : Nat} (h : n ≠ 0) : bl n = bl (n / 2) + 1 := by rw [bl, dif_neg h]
theorem lt_bl (n : Nat) : n < 2 ^ bl n := by
  induction n using Nat.strongRecOn with
  | _ n ih =>
    by_cases h : n = 0
    · rw [h, bl_zero]; decide
    · rw [bl_pos h, Nat.pow_succ]
      have := ih (n / 2) (Nat.div_lt_self (Nat.pos_of_ne_zero h) (by decide))
      omega
theorem le_bl {n : Nat} (h : n ≠ 0) : 2 ^ (bl n - 1) ≤ n := by
  induction n using Nat.strongRecOn with
  | _ n ih =>
    rw [bl_pos h, Nat.add_sub_cancel]
    by_cases k : n / 2 = 0
    · rw [k, bl_zero]; simp; omega
    · have := ih (n / 2) (Nat.div_lt_self (Nat.pos_of_ne_zero h) (by decide)) k
      have e := bl_pos k
      rw [e, Nat.add_sub_cancel] at this
      rw [e, Nat.pow_succ]
      omega
theorem pow_lt_pow_iff {a b : Nat} (h : 2 ^ a < 2 ^ b) : a < b := (Nat.pow_lt_pow_iff_right (by decide)).1 h
theorem bl_of {n k : Nat} (h1 : 2 ^ k ≤ n) (h2 : n < 2 ^ (k + 1)) : bl n = k + 1 := by
  have hn : n ≠ 0 := by have := Nat.two_pow_pos k; omega
  have a := lt_bl n
  have b := le_bl hn
  have p1 := pow_lt_pow_iff (Nat.lt_of_le_of_lt h1 a)
  have p2 := pow_lt_pow_iff (Nat.lt_of_le_of_lt b h2)
  have := bl_pos hn
  omega
theorem bl_le {n k : Nat} (h : n < 2 ^ k) : bl n ≤ k := by
  by_cases hn : n = 0
  · rw [hn, bl_zero]; omega
  · have p := pow_lt_pow_iff (Nat.lt_of_le_of_lt (le_bl hn) h)
    omega
theorem bitLen_bl (x : Nat) (h : x < 18446744073709551616) : Lib.bitLen x = bl x := by
  induction x using Nat.strongRecOn with
  | _ x ih =>
    by_cases hx : x = 0
    · subst hx; rw [bl_zero]; decide
    · rw [Lib.bitLen_half x hx (by omega), bl_pos hx, ih (x / 2) (Nat.div_lt_self (Nat.pos_of_ne_zero hx) (by decide)) (by omega), Nat.add_comm]
theorem B_pow (k : Nat) : B ^ k = 2 ^ (32 * k) := by rw [B_eq, show (4294967296 : Nat) = 2 ^ 32 by decide, Nat.pow_mul]
theorem bl_add_mul {t P k x : Nat} (ht : t < 2 ^ k) (hP : P = 2 ^ k) (hx : x ≠ 0) : bl (t + P * x) = k + bl x := by
  have a := lt_bl x
  have b := le_bl hx
  have e := bl_pos hx
  subst hP
  have e2 : k + bl x = (k + (bl x - 1)) + 1 := by omega
  rw [e2]
  refine bl_of ?_ ?_
  · rw [Nat.pow_add]
    have := Nat.mul_le_mul_left (2 ^ k) b
    omega
  · rw [← e2, Nat.pow_add]
    have := Nat.mul_le_mul_left (2 ^ k) (show x + 1 ≤ 2 ^ bl x by omega)
    rw [Nat.mul_add] at this
    omega
theorem bl_limbs {a k : Nat} (hk : k + 1 = (limbs a).length) : bl a = k * 32 + bl ((limbs a)[k]'(by omega)) := by
  have e := val_split (limbs a) k (by omega)
  have d := val_drop (limbs a) k (by omega)
  have z : (limbs a).drop (k + 1) = [] := List.drop_of_length_le (by omega)
  rw [z, val_nil, Nat.mul_zero, Nat.add_zero] at d
  rw [val_limbs, d] at e
  have l := val_take_limbs_lt a k
  conv => lhs; rw [e]
  rw [bl_add_mul (k := 32 * k) (by rw [← B_pow]; exact l) (B_pow k) (last_ne_zero hk), Nat.mul_comm]
end Go.Proofs.Ytacobmnghdibaaa
namespace Go.Proofs.Ytacobmnghdibaaa
open Go.RowKit
theorem pair_eq {k : IntKind} {a b c d : Int} (h1 : a = c) (h2 : b = d) : Ending.returned (.tuple #[.int k a, .int k b]) = .returned (.tuple #[.int k c, .int k d]) := by rw [h1, h2]
theorem int_eq {k : IntKind} {a b : Int} (h : a = b) : Ending.returned (.int k a) = .returned (.int k b) := by rw [h]
set_option maxRecDepth 100000 in
theorem add32 (x y c : Nat) (hx : x < 4294967296) (hy : y < 4294967296) (hc : c ≤ 1) (w : World) : Calls Try.prog 101 #[lv x, lv y, lv c] w fun e w' =>
    e = .returned (.tuple #[lv ((x + y + c) % 4294967296), lv ((x + y + c) / 4294967296)]) ∧ w = w' := by
  go_enter Try.func101, Try.ntmps101
  go_wp2
  go_ret2
  exact ⟨pair_eq (by omega) (by omega), rfl⟩
set_option maxRecDepth 100000 in
theorem sub32 (x y c : Nat) (hx : x < 4294967296) (hy : y < 4294967296) (hc : c ≤ 1) (w : World) : Calls Try.prog 102 #[lv x, lv y, lv c] w fun e w' =>
    e = .returned (.tuple #[lv ((x + 8589934592 - y - c) % 4294967296), lv (bor x (y + c))]) ∧ w = w' := by
  obtain ⟨d, hd⟩ : ∃ d, d = (x + 4294967296 + 4294967296 - y - c) % 4294967296 := ⟨_, rfl⟩
  have hd' : d < 4294967296 := by rw [hd]; exact Nat.mod_lt _ (by decide)
  have E0 : Hid (((x : Int) - y - c) % 4294967296 = (d : Int)) := by unfold Hid; omega
  have H := Lib.hid (borrow_top x y c d hx hy hc hd)
  have HD := Lib.hid hd
  have E1 : Hid (bits BinOp.or IntKind.u32 (bits BinOp.and IntKind.u32 (bits BinOp.xor IntKind.u32 IntKind.u32.max (x : Int)) (y : Int)) (bits BinOp.and IntKind.u32 (bits BinOp.xor IntKind.u32 IntKind.u32.max (bits BinOp.xor IntKind.u32 (x : Int) (y : Int))) ((d : Nat) : Int)) / 2147483648 = (bor x (y + c) : Int)) := by
    unfold Hid
    have l0 : 4294967295 ^^^ x < 2 ^ 32 := Nat.xor_lt_two_pow (by decide) (by omega)
    have l1 : (4294967295 ^^^ x) &&& y < 2 ^ 32 := Nat.and_lt_two_pow _ (by omega)
    have l3 : x ^^^ y < 2 ^ 32 := Nat.xor_lt_two_pow (by omega) (by omega)
    have l4 : 4294967295 ^^^ (x ^^^ y) < 2 ^ 32 := Nat.xor_lt_two_pow (by decide) l3
    have l2 : (4294967295 ^^^ (x ^^^ y)) &&& d < 2 ^ 32 := Nat.and_lt_two_pow _ (by omega)
    rw [u32_max, u32_xor_nat 4294967295 x (by decide) hx, u32_xor_nat x y hx hy, u32_xor_nat 4294967295 (x ^^^ y) (by decide) l3, u32_and_nat _ y l0 hy, u32_and_nat _ d l4 hd', u32_or_nat _ _ l1 l2, ← H.out]
    omega
  clear hd H
  go_enter Try.func102, Try.ntmps102
  go_wp2
  go_ret2
  refine ⟨pair_eq ?_ ?_, rfl⟩
  · rw [E0.out]; have := HD.out; omega
  · rw [E0.out, E1.out]
set_option maxRecDepth 100000 in
theorem div32 (x y c : Nat) (hx : x < c) (hy : y < 4294967296) (hc : c < 4294967296) (w : World) : Calls Try.prog 93 #[lv x, lv y, lv c] w fun e w' =>
    e = .returned (.tuple #[lv ((x * 4294967296 + y) / c), lv ((x * 4294967296 + y) % c)]) ∧ ∃ m, w' = w.drewN m := by
  have h1 : ((c : Int) != 0) = true := by simp; omega
  have h2 : ¬ (c : Int) ≤ x := by omega
  have e1 := Lib.hid (u64_or_up x y (by omega) hy)
  have k1 : (x * 4294967296 + y) / c < 4294967296 := by
    rw [Nat.div_lt_iff_lt_mul (by omega)]
    have : (x + 1) * 4294967296 ≤ c * 4294967296 := Nat.mul_le_mul_right _ hx
    rw [Nat.mul_comm c] at this
    omega
  have k2 : (x * 4294967296 + y) % c < c := Nat.mod_lt _ (by omega)
  have e2 : ((x * 4294967296 + y : Nat) : Int) = (x : Int) * 4294967296 + (y : Int) := by omega
  have E3 : Hid ((IntKind.u64.wrap ((bits BinOp.or IntKind.u64 ((x : Int) * 4294967296) (y : Int)).tdiv (c : Int)) % 4294967296) = (((x * 4294967296 + y) / c : Nat) : Int)) := by
    unfold Hid
    rw [e1.out, ← e2, ← Int.ofNat_tdiv, IntKind.wrap_u64]
    generalize (x * 4294967296 + y) / c = q at *
    omega
  have E4 : Hid ((bits BinOp.or IntKind.u64 ((x : Int) * 4294967296) (y : Int)).tmod (c : Int) % 4294967296 = (((x * 4294967296 + y) % c : Nat) : Int)) := by
    unfold Hid
    rw [e1.out, ← e2, ← Int.ofNat_tmod]
    generalize (x * 4294967296 + y) % c = q at *
    omega
  clear e2 k1 k2
  go_enter Try.func93, Try.ntmps93
  go_wp2
  go_quiet (fail)
  go_wp2
  go_ret2
  exact ⟨pair_eq E3.out E4.out, _, rfl⟩

/-- The number, if it has at most 64 limbs; else 0. -/
@[irreducible] def fitN (r : Nat) : Nat := if ln r ≤ 64 then r else 0
/-- OK or ErrBig. -/
@[irreducible] def fitE (r : Nat) : Int := if ln r ≤ 64 then 0 else 6
theorem fitN_yes {r : Nat} (h : ln r ≤ 64) : fitN r = r := by unfold fitN; rw [if_pos h]
theorem fitN_no {r : Nat} (h : ¬ ln r ≤ 64) : fitN r = 0 := by unfold fitN; rw [if_neg h]
theorem fitE_yes {r : Nat} (h : ln r ≤ 64) : fitE r = 0 := by unfold fitE; rw [if_pos h]
theorem fitE_no {r : Nat} (h : ¬ ln r ≤ 64) : fitE r = 6 := by unfold fitE; rw [if_neg h]
theorem lim_zero (w : World) (A : Option Addr) (c : Nat) (hc : c ≤ 9223372036854775807) : Lim w A 0 c (limbs 0) := by rw [limbs_zero]; exact Lim.none_ w A c hc
end Go.Proofs.Ytacobmnghdibaaa
