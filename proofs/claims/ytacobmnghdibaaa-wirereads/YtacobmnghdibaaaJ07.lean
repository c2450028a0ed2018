/- The program's walks of Number and lowestFirst. Plain numbers: when the bytes that are read are those that would be written. The program's walk of number. The program's walks of fromLowest, text and wide. -/
import Derived.Test.YtacobmnghdibaaaJ06
import Derived.Laws.BitsAllLaws
namespace Go.Proofs.Ytacobmnghdibaaa
open Go.RowKit
set_option linter.unusedVariables false
set_option linter.unusedSimpArgs false
set_option maxHeartbeats 1000000
set_option maxRecDepth 100000
theorem or_128 : ∀ k : Nat, k < 256 → k ||| 128 = 128 + k % 128 := by decide
theorem or8_high (q : Nat) : ∃ b : UInt8, bits BinOp.or IntKind.u8 ((q : Int) % 256) 128 = (b.toNat : Int) ∧ b = by8 (128 + q % 128) := by
  refine ⟨by8 (128 + q % 128), ?_, rfl⟩
  rw [by8_toNat (by omega), show (q : Int) % 256 = ((q % 256 : Nat) : Int) from rfl, show (128 : Int) = ((128 : Nat) : Int) from rfl, u8_or_nat _ _ (by omega) (by decide), or_128 _ (by omega)]
  congr 1
  omega
theorem byte_of (q : Nat) : ∃ b : UInt8, (q : Int) % 256 = (b.toNat : Int) ∧ b = by8 (q % 256) := by
  refine ⟨by8 (q % 256), ?_, rfl⟩
  rw [by8_toNat (by omega)]; rfl
theorem wNumber_any (n : Nat) (hn : n < 18446744073709551616) (w : World) : Calls Try.prog 14 #[.int .u64 (n : Int)] w fun e w' => e = .returned (.string (bs (enc n))) ∧ Below w.heap.size w w' := by
  have H10 := Lib.hid (enc_ten hn)
  go_enter Try.func14, Try.ntmps14
  go_wp2_with fail
  go_loopg [0, 3] n (fun q s0 s3 wr => ∃ l : List UInt8, s0 = .int .u64 (q : Int) ∧ q < 18446744073709551616 ∧ Hid (l ++ enc q = enc n) ∧ OwnB wr w.heap.size s3 l ∧ Below w.heap.size w wr)
  case atStart => exact ⟨[], rfl, hn, rfl, OwnB.nil _ _, Below.refl _ _⟩
  case round =>
    obtain ⟨l, rfl, hq, he, OB, BL⟩ := hrel
    obtain ⟨m, rfl⟩ : ∃ m, m = gk := ⟨_, rfl⟩
    have hs : l.length ≤ 10 := by
      have := congrArg List.length he.out
      rw [List.length_append] at this
      have := H10.out
      omega
    have OBH := Lib.hid OB
    have BH := Lib.hid BL
    by_cases hm : m < 128
    · have h1 : ¬ (128 : Int) ≤ m := by omega
      obtain ⟨b, e1, e2⟩ := byte_low (show m < 256 by omega)
      have ES : Hid (l ++ [b] = enc n) := by
        unfold Hid
        rw [← he.out, enc_low hm, e2]
      clear e2 OB BL he hm
      go_wp2_with (at_builtin; refine wpList_appendB _ rfl _ _ rfl rfl w.heap.size rfl (OBH.out.alloc _) (by have := BH.out.size; simp; omega) b (ad := ⟨wr.heap.size, 0, none⟩) (c := 1) rfl ?qc2 (by omega) ?_)
      intro v9 w9 O9 B9
      have CV := O9.conv
      have BZ := Lib.hid (((BH.out.alloc BH.out.size _).trans B9 : Below w.heap.size w w9))
      clear O9 B9
      go_wp2_with fail
      go_ret
      exact ⟨by rw [← ES.out]; rfl, BZ.out⟩
    · have h1 : (128 : Int) ≤ m := by omega
      obtain ⟨b, e1, e2⟩ := or8_high m
      have ES : Hid ((l ++ [b]) ++ enc (m / 128) = enc n) := by
        unfold Hid
        rw [← he.out, enc_high hm, e2, List.append_assoc]; rfl
      have HM := Lib.hid hm
      clear e2 OB BL he hm
      go_wp2_with (at_builtin; refine wpList_appendB _ rfl _ _ rfl rfl w.heap.size rfl (OBH.out.alloc _) (by have := BH.out.size; simp; omega) b (ad := ⟨wr.heap.size, 0, none⟩) (c := 1) rfl ?rc2 (by omega) ?_)
      case rc2 => exact cell_one_new wr _ _ 0 _ rfl
      intro v9 w9 O9 B9
      have OZ := Lib.hid O9
      have BZ := Lib.hid (((BH.out.alloc BH.out.size _).trans B9 : Below w.heap.size w w9))
      clear O9 B9
      go_wp2_with fail
      go_roundg (m / 128)
      case measure => have := HM.out; omega
      case rel =>
        go_light
        exact ⟨l ++ [b], by go_num, by omega, ES.out, OZ.out, BZ.out⟩
theorem lowest_any (l : List UInt8) (n k : Nat) (hn : n < 18446744073709551616) (hk : k ≤ 8) (hl : l.length ≤ 1000) (base : Nat) (v : Value) (w : World) (hb : base ≤ w.heap.size) (ho : OwnB w base v l) : Calls Try.prog 34 #[v, .int .u64 (n : Int), .int .i64 (k : Int)] w fun e w' =>
    ∃ v', e = .returned v' ∧ OwnB w' base v' (l ++ leb n k) ∧ Below base w w' := by
  have HL := Lib.hid hl
  have HBS := Lib.hid hb
  go_enter Try.func34, Try.ntmps34
  go_wp2_with fail
  go_loopg [0, 1, 8] k (fun q s0 s1 s8 wr => ∃ (i m : Nat) (l2 : List UInt8), i + q = k ∧ s1 = .int .u64 (m : Int) ∧ m < 18446744073709551616 ∧ s8 = .int .i64 (i : Int) ∧ Hid (l2 ++ leb m q = l ++ leb n k) ∧ Hid (l2.length = l.length + i) ∧ OwnB wr base s0 l2 ∧ Below base w wr)
  case atStart => exact ⟨0, n, l, by omega, rfl, hn, rfl, rfl, rfl, ho, Below.refl _ _⟩
  case round =>
    obtain ⟨i, m, l2, hq, rfl, hm, rfl, he, hz, OB, BL⟩ := hrel
    have OBH := Lib.hid OB
    have BH := Lib.hid BL
    have HQ := Lib.hid hq
    have l2s : l2.length ≤ 1008 := by have := HL.out; have := hz.out; omega
    by_cases lt : i < k
    · have h1 : (i : Int) < k := by omega
      obtain ⟨b, e1, e2⟩ := byte_of m
      obtain ⟨g, hg⟩ : ∃ g, gk = g + 1 := ⟨gk - 1, by omega⟩
      have ES : Hid ((l2 ++ [b]) ++ leb (m / 256) g = l ++ leb n k) := by
        unfold Hid
        rw [← he.out, hg, leb, e2, List.append_assoc]; rfl
      have HG := Lib.hid hg
      have LZ : Hid ((l2 ++ [b]).length = l.length + (i + 1)) := by unfold Hid; rw [List.length_append, hz.out]; rfl
      clear e2 OB BL he hg hq
      go_wp2_with (at_builtin; refine wpList_appendB _ rfl _ _ rfl rfl base rfl (OBH.out.alloc _) (by have := BH.out.size; have := HBS.out; simp; omega) b (ad := ⟨wr.heap.size, 0, none⟩) (c := 1) rfl ?qc2 (by omega) ?_)
      case qc2 => first | exact cell_one_new wr _ _ 0 _ rfl | (rw [← e1]; exact cell_one_new wr _ _ 0 _ rfl) | exact e1
      intro v9 w9 O9 B9
      have OZ := Lib.hid O9
      have BZ : Hid (Below base w w9) := by
        have sz := BH.out.size
        have := HBS.out
        exact (BH.out.alloc (by omega) _).trans B9
      clear O9 B9
      go_wp2_with fail
      go_roundg g
      case measure => have := HG.out; omega
      case rel =>
        go_light
        exact ⟨i + 1, m / 256, l2 ++ [b], by have := HQ.out; have := HG.out; omega, by go_num, by omega, by go_num, ES.out, LZ.out, OZ.out, BZ.out⟩
    · have h1 : ¬ (i : Int) < k := by omega
      have g0 : gk = 0 := by omega
      rw [g0] at he
      have ES : Hid (l2 = l ++ leb n k) := by have := he.out; rw [leb, List.append_nil] at this; exact this
      clear he OB BL g0 hq
      go_wp2_with fail
      go_ret
      rw [← ES.out]
      exact ⟨_, rfl, OBH.out, BH.out⟩
end Go.Proofs.Ytacobmnghdibaaa
namespace Go.Proofs.Ytacobmnghdibaaa
open Go.RowKit
theorem val7_lt : ∀ l : List UInt8, val7 l < 128 ^ l.length
  | [] => by simp [val7]
  | b :: r => by
    have := val7_lt r
    rw [val7, List.length_cons, Nat.pow_succ]
    omega
/-- Bytes of which all but the last one are above 127, and the last one is above 0 if there are more. -/
theorem enc_can : ∀ (l : List UInt8) (b : UInt8), (∀ x ∈ l, ¬ x.toNat < 128) → b.toNat < 128 → (b.toNat ≠ 0 ∨ l = []) → enc (val7 (l ++ [b])) = l ++ [b]
  | [], b, _, hb, _ => by
    have : val7 ([] ++ [b]) = b.toNat := by simp [val7]; omega
    rw [this, enc_low hb]
    show [UInt8.ofNat b.toNat] = [b]
    rw [UInt8.ofNat_toNat]
  | x :: r, b, hx, hb, h0 => by
    have hb0 : b.toNat ≠ 0 := by rcases h0 with h | h; · exact h
                                 · cases h
    have ih := enc_can r b (fun y hy => hx y (List.mem_cons_of_mem _ hy)) hb (Or.inl hb0)
    have x1 := hx x (List.mem_cons_self ..)
    have x2 := x.toNat_lt
    have pos : 0 < val7 (r ++ [b]) := by
      rw [val7_app]
      have : 0 < 128 ^ r.length * val7 [b] := Nat.mul_pos (Nat.pow_pos (by decide)) (by simp [val7]; omega)
      omega
    have e : val7 (x :: r ++ [b]) = x.toNat % 128 + 128 * val7 (r ++ [b]) := rfl
    rw [e, enc_high (by omega), show (x.toNat % 128 + 128 * val7 (r ++ [b])) / 128 = val7 (r ++ [b]) by omega, ih]
    rw [show 128 + (x.toNat % 128 + 128 * val7 (r ++ [b])) % 128 = x.toNat by omega]
    show UInt8.ofNat x.toNat :: _ = _
    rw [UInt8.ofNat_toNat]; rfl
/-- .. else they would not be written so. -/
theorem enc_not {l : List UInt8} {b : UInt8} (hl : l ≠ []) (hb : b.toNat = 0) {n : Nat} (hn : val7 (l ++ [b]) = n) : enc n ≠ l ++ [b] := by
  intro h
  have e := congrArg List.length h
  have v : n < 128 ^ l.length := by
    rw [← hn, val7_app]
    have := val7_lt l
    simp [val7, hb]; exact this
  obtain ⟨k, hk⟩ : ∃ k, l.length = k + 1 := ⟨l.length - 1, by have := List.length_pos_iff.2 hl; omega⟩
  rw [hk] at v
  have := enc_len v
  rw [e, List.length_append, hk] at this
  simp at this
  try omega
theorem pow7 (i : Nat) : 128 ^ i = 2 ^ (7 * i) := by rw [Nat.pow_mul]
theorem v64_val {l : List UInt8} {i : Nat} (hi : i ≤ 9) : v64 l i = val7 (l.take i) ∧ v64 l i < 128 ^ i := by
  have a := val7_lt (l.take i)
  have b : 128 ^ (l.take i).length ≤ 128 ^ i := Nat.pow_le_pow_right (by decide) (by rw [List.length_take]; exact Nat.min_le_left _ _)
  have c : 128 ^ i ≤ 128 ^ 9 := Nat.pow_le_pow_right (by decide) hi
  have d : (128 ^ 9 : Nat) < 18446744073709551616 := by decide
  have e : v64 l i = val7 (l.take i) := by rw [v64_eq]; exact Nat.mod_eq_of_lt (by omega)
  exact ⟨e, by rw [e]; omega⟩
theorem split64 {i : Nat} (hi : i ≤ 9) : ∃ q, 18446744073709551616 = 128 ^ i * q := by
  refine ⟨2 ^ (64 - 7 * i), ?_⟩
  rw [pow7, ← Nat.pow_add, show 7 * i + (64 - 7 * i) = 64 by omega]
/-- The next word. -/
theorem v64_next {l : List UInt8} {i : Nat} (h : i < l.length) (hi : i ≤ 9) : v64 l (i + 1) = v64 l i + 128 ^ i * (l[i].toNat % 128) % 18446744073709551616 := by
  obtain ⟨e, lt⟩ := v64_val (l := l) hi
  obtain ⟨q, hq⟩ := split64 hi
  rw [v64_eq, val7_take l i h, ← e]
  have h2 : 128 ^ i * (l[i].toNat % 128) % 18446744073709551616 = 128 ^ i * ((l[i].toNat % 128) % q) := by rw [hq, Nat.mul_mod_mul_left]
  rw [h2]
  have h3 : (v64 l i + 128 ^ i * (l[i].toNat % 128)) % 18446744073709551616 = v64 l i + 128 ^ i * ((l[i].toNat % 128) % q) := by
    rw [hq, Nat.mod_mul, Nat.add_mul_mod_self_left, Nat.mod_eq_of_lt lt, Nat.add_mul_div_left _ _ (Nat.pow_pos (by decide)), Nat.div_eq_of_lt lt, Nat.zero_add]
  exact h3
theorem v64_div {l : List UInt8} {i : Nat} (h : i < l.length) (hi : i ≤ 9) (hl : l[i].toNat < 128) : v64 l (i + 1) / 128 ^ i = l[i].toNat ↔ val7 (l.take (i + 1)) < 18446744073709551616 := by
  obtain ⟨e, lt⟩ := v64_val (l := l) hi
  obtain ⟨q, hq⟩ := split64 hi
  have q0 : 0 < q := by
    rcases Nat.eq_zero_or_pos q with h0 | h0
    · rw [h0] at hq; simp at hq
    · exact h0
  rw [v64_next h hi, Nat.mod_eq_of_lt hl, val7_take l i h, ← e, Nat.mod_eq_of_lt hl, hq, Nat.mul_mod_mul_left, Nat.add_mul_div_left _ _ (Nat.pow_pos (by decide)), Nat.div_eq_of_lt lt, Nat.zero_add]
  have p := Nat.pow_pos (n := i) (show 0 < 128 by decide)
  constructor
  · intro hm
    have : l[i].toNat < q := by rw [← hm]; exact Nat.mod_lt _ q0
    calc v64 l i + 128 ^ i * l[i].toNat < 128 ^ i + 128 ^ i * l[i].toNat := by omega
      _ = 128 ^ i * (l[i].toNat + 1) := by rw [Nat.mul_add, Nat.mul_one, Nat.add_comm]
      _ ≤ 128 ^ i * q := Nat.mul_le_mul_left _ this
  · intro hv
    refine Nat.mod_eq_of_lt (Nat.lt_of_mul_lt_mul_left (a := 128 ^ i) ?_)
    omega
/-- What the program looks at, at a byte below 128. -/
theorem num_here {l : List UInt8} {i : Nat} (h : i < l.length) (hi : i ≤ 9) (hl : l[i].toNat < 128) (hb : ∀ j (hj : j < i), ¬ (l[j]'(by omega)).toNat < 128) :
    numAt l = if (l[i].toNat ≠ 0 ∨ i = 0) ∧ v64 l (i + 1) / 2 ^ (7 * i) = l[i].toNat then some (v64 l (i + 1), i + 1) else none := by
  rw [numAt_here h hl hb, ← v64_eq, ← pow7]
  have D := v64_div h hi hl
  have tk : l.take (i + 1) = l.take i ++ [l[i]] := List.take_succ_eq_append_getElem h
  have li : (l.take i).length = i := by rw [List.length_take]; omega
  by_cases hv : val7 (l.take (i + 1)) < 18446744073709551616
  · have ev : v64 l (i + 1) = val7 (l.take (i + 1)) := by rw [v64_eq]; exact Nat.mod_eq_of_lt hv
    rw [ev] at D ⊢
    by_cases h0 : l[i].toNat ≠ 0 ∨ i = 0
    · have P : enc (val7 (l.take (i + 1))) = l.take (i + 1) := by
        rw [tk]
        refine enc_can _ _ (fun x hx => ?_) hl (h0.imp id fun z => by rw [z]; rfl)
        obtain ⟨j, hj, rfl⟩ := List.getElem_of_mem hx
        rw [List.getElem_take]
        exact hb j (by omega)
      rw [if_pos P, if_pos ⟨h0, D.2 hv⟩]
    · have P : ¬ enc (val7 (l.take (i + 1))) = l.take (i + 1) := by
        have h1 : ¬ i = 0 := fun z => h0 (Or.inr z)
        have h2 : l[i].toNat = 0 := Decidable.byContradiction fun z => h0 (Or.inl z)
        have hne : l.take i ≠ [] := by intro z; rw [z] at li; simp at li; omega
        rw [tk]
        exact enc_not hne h2 rfl
      rw [if_neg P, if_neg (fun x => h0 x.1)]
  · have P : ¬ enc (v64 l (i + 1)) = l.take (i + 1) := by
      intro he
      have := val7_enc (v64 l (i + 1))
      rw [he] at this
      have := v64_lt l (i + 1)
      omega
    rw [if_neg P, if_neg (fun x => hv (D.1 x.2))]
/-- The number that begins here, if it is at most so much. -/
@[irreducible] def numM (l : List UInt8) (most : Nat) : Option (Nat × Nat) := if (numOf l).2 ≠ 0 ∧ (numOf l).1 ≤ most then some (numOf l) else none
theorem numM_eq (l : List UInt8) (most : Nat) : numM l most = if (numOf l).2 ≠ 0 ∧ (numOf l).1 ≤ most then some (numOf l) else none := by unfold numM; rfl
theorem numM_none {l : List UInt8} {most : Nat} (h : numAt l = none) : numM l most = none := by rw [numM_eq, numOf_none h]; simp
theorem numM_yes {l : List UInt8} {most n k : Nat} (h : numAt l = some (n, k + 1)) (hm : n ≤ most) : numM l most = some (n, k + 1) := by rw [numM_eq, numOf_some h]; simp [hm]
theorem numM_more {l : List UInt8} {most n k : Nat} (h : numAt l = some (n, k)) (hm : ¬ n ≤ most) : numM l most = none := by rw [numM_eq, numOf_some h]; simp; omega
theorem readN_numM (s : ByteArray) (p : Int) (lo : Bool) (most : Nat) : readN s p lo most = if okR s.size p lo = true then numM (L (restB s p lo)) most else none := by
  rw [numM_eq]
  by_cases h : okR s.size p lo = true
  · rw [if_pos h]
    by_cases c : (numOf (L (restB s p lo))).2 ≠ 0 ∧ (numOf (L (restB s p lo))).1 ≤ most
    · rw [if_pos c, readN_some ⟨h, c⟩]
    · rw [if_neg c, readN_none fun x => c x.2]
  · rw [if_neg h, readN_none fun x => h x.1]
theorem numM_le {l : List UInt8} {most n k : Nat} (h : numM l most = some (n, k)) : k ≤ l.length ∧ n ≤ most ∧ n < 18446744073709551616 := by
  rw [numM_eq] at h
  have q := numOf_le l
  split at h
  · rename_i c
    injection h with h
    rw [h] at c q
    exact ⟨q.1, c.2, q.2⟩
  · cases h
end Go.Proofs.Ytacobmnghdibaaa
namespace Go.Proofs.Ytacobmnghdibaaa
open Go.RowKit
set_option linter.unusedVariables false
set_option linter.unusedSimpArgs false
set_option maxHeartbeats 1000000
set_option maxRecDepth 100000
/-- What a call on the rest answers: a value, and what is left; or it ends, for something is missing. -/
def RetP (x : Option (Value × ByteArray)) (g : Nat) (w : World) (e : Ending) (w' : World) : Prop :=
  match x with
  | some (v, r) => e = .returned v ∧ Tk g #[.string r] w w'
  | none => e = .panicked lost8 ∧ ∃ r : ByteArray, Tk g #[.string r] w w'
theorem or64 {n s y : Nat} (hn : n < 2 ^ s) (hs : s ≤ 63) (hy : y < 256) : bits BinOp.or IntKind.u64 (n : Int) (IntKind.u64.wrap ((y : Int) % 128 * 2 ^ s)) = ((n + 2 ^ s * (y % 128) % 18446744073709551616 : Nat) : Int) := by
  have e1 : (y : Int) % 128 * 2 ^ s = ((2 ^ s * (y % 128) : Nat) : Int) := by
    rw [Int.natCast_mul, Int.natCast_pow, Int.mul_comm]; rfl
  have e2 : 2 ^ s * (y % 128) % 18446744073709551616 = 2 ^ s * (y % 128 % 2 ^ (64 - s)) := by
    have : 18446744073709551616 = 2 ^ s * 2 ^ (64 - s) := by rw [← Nat.pow_add, show s + (64 - s) = 64 by omega]
    rw [this, Nat.mul_mod_mul_left]
  rw [e1, IntKind.wrap_u64, show ((2 ^ s * (y % 128) : Nat) : Int) % 18446744073709551616 = ((2 ^ s * (y % 128) % 18446744073709551616 : Nat) : Int) from rfl, e2]
  have l1 : 2 ^ s * (y % 128 % 2 ^ (64 - s)) < 18446744073709551616 := by rw [← e2]; exact Nat.mod_lt _ (by decide)
  have l2 : n < 18446744073709551616 := Nat.lt_of_lt_of_le hn (Nat.le_trans (Nat.pow_le_pow_right (by decide) hs) (by decide))
  generalize y % 128 % 2 ^ (64 - s) = k at *
  rw [Go.Proofs.Ytacobmnghdibaaa.u64_or_nat _ _ l2 l1]
  congr 1
  rw [Nat.or_comm, ← Nat.two_pow_add_eq_or_of_lt hn k, Nat.add_comm]
theorem number_any {b : ByteArray} {g : Nat} {w : World} (h : Box w g #[.string b]) (most : Nat) (hs : b.size ≤ 281474976710656) : Calls Try.prog 43 #[.pointer (some ⟨g, 0, none⟩), .int .u64 (most : Int)] w fun e w' =>
    RetP ((numM (L b) most).map fun x => (.int .u64 (x.1 : Int), b.extract x.2 b.size)) g w e w' := by
  have HL := Lib.hid (L_len b)
  have KY := Lib.hid need_yes
  have KN := Lib.hid need_no
  go_enter Try.func43, Try.ntmps43
  go_wp2_with fail
  go_loopg [5, 6] 10 (fun q s5 s6 wr => ∃ (i : Nat) (cur : ByteArray), i + q = 10 ∧ s5 = .int .u64 (v64 (L b) i : Int) ∧ s6 = .int .i64 ((7 * i : Nat) : Int) ∧ Hid (cur = b.extract i b.size) ∧ Hid (i ≤ b.size) ∧ Hid (∀ j (hj : j < (L b).length), j < i → ¬ (L b)[j].toNat < 128) ∧ Tk g #[.string cur] w wr)
  case atStart => exact ⟨0, b, rfl, by rw [v64_zero]; rfl, rfl, by unfold Hid; simp, Nat.zero_le _, fun j _ hj => absurd hj (by omega), Tk.refl h⟩
  case round =>
    obtain ⟨i, cur, hq, rfl, rfl, hc, hi, hno, T⟩ := hrel
    have HQ := Lib.hid hq
    by_cases l10 : i < 10
    · obtain ⟨sh, hsh⟩ : ∃ s, s = 7 * i := ⟨_, rfl⟩
      rw [← hsh]
      have h1 : (sh : Int) < 64 := by omega
      have hz : (0 : Int) ≤ sh := by omega
      have csz : cur.size = b.size - i := by rw [hc.out, ByteArray.size_extract]; omega
      by_cases c1 : i < b.size
      · have ix : i < (L b).length := by rw [HL.out]; exact c1
        have KT : Hid (Calls Try.prog 70 #[.pointer (some ⟨g, 0, none⟩), .int .i64 1] wr _) := take_yes (n := 1) T.box (by omega) (by omega)
        obtain ⟨t, ht⟩ : ∃ t, t = cur.extract 0 1 := ⟨_, rfl⟩
        obtain ⟨rr, hr⟩ : ∃ t, t = cur.extract 1 cur.size := ⟨_, rfl⟩
        rw [← ht, ← hr] at KT
        have t0 : 0 < t.size := by rw [ht, ByteArray.size_extract]; omega
        have t1 : (0 : Int) < t.size := by omega
        have hy : (t[0]'t0).toNat = (L b)[i].toNat := by
          have e : (t[0]'t0).toNat = ((L t)[0]'(by rw [L_len]; exact t0)).toNat := rfl
          have e2 : L t = ((L b).drop i).take 1 := by rw [ht, L_take, hc.out, L_drop]
          rw [e]
          congr 1
          simp only [e2, List.getElem_take, List.getElem_drop]
          congr 1
        have HR : Hid (rr = b.extract (i + 1) b.size) := by
          refine L_inj ?_
          rw [hr, L_drop, hc.out, L_drop, L_drop, List.drop_drop]
        have y8 := UInt8.toNat_lt (L b)[i]
        have OR := or64 (n := v64 (L b) i) (s := sh) (y := (L b)[i].toNat) (by rw [hsh, ← pow7]; exact (v64_val (by omega)).2) (by omega) y8
        have NX := v64_next ix (show i ≤ 9 by omega)
        have VL := v64_lt (L b) (i + 1)
        rw [hsh, ← pow7, ← NX, ← hsh] at OR
        have LOW := Lib.hid (fun (low : (L b)[i].toNat < 128) => num_here ix (by omega) low (fun j hj => hno.out j (by omega) hj))
        have HIGH : Hid (¬ (L b)[i].toNat < 128 → ∀ j (hj : j < (L b).length), j < i + 1 → ¬ (L b)[j].toNat < 128) := by
          intro h j hj hj2
          by_cases e : j < i
          · exact hno.out j hj e
          · have e2 : j = i := by omega
            subst e2
            exact h
        have HB : Hid (i + 1 ≤ b.size) := by unfold Hid; omega
        rw [← hsh] at LOW
        have HS := Lib.hid hsh
        have hi0 : ((sh : Int) == 0) = decide (i = 0) := by
          by_cases z : i = 0
          · rw [hsh, z]; rfl
          · rw [decide_eq_false z]; simp; omega
        have EDV : ((v64 (L b) (i + 1) : Int) / 2 ^ sh == ((L b)[i].toNat : Int)) = decide (v64 (L b) (i + 1) / 2 ^ sh = (L b)[i].toNat) := by
          have : ((v64 (L b) (i + 1) : Int) / 2 ^ sh) = ((v64 (L b) (i + 1) / 2 ^ sh : Nat) : Int) := by
            rw [Int.natCast_ediv, Int.natCast_pow]; rfl
          rw [this]
          by_cases z : v64 (L b) (i + 1) / 2 ^ sh = (L b)[i].toNat
          · rw [z]; simp
          · rw [decide_eq_false z]; simp; exact fun z2 => z (by exact_mod_cast z2)
        generalize (L b)[i].toNat = y at *
        obtain ⟨n1, hn1⟩ : ∃ n, v64 (L b) (i + 1) = n := ⟨_, rfl⟩
        rw [hn1] at OR NX VL LOW EDV
        have HN := Lib.hid hn1
        clear hn1
        generalize v64 (L b) i = n0 at *
        clear hsh ht hr hc NX hno hi csz
        by_cases low : y < 128
        · have NH := Lib.hid (LOW.out low)
          clear LOW HIGH
          have low1 : (y : Int) < 128 := by omega
          have YZ : (((y : Int) != 0) = false ∧ Hid (y = 0)) ∨ (((y : Int) != 0) = true ∧ Hid (y ≠ 0)) := by
            by_cases z : y = 0
            · exact Or.inl ⟨by rw [z]; rfl, z⟩
            · exact Or.inr ⟨by simp; exact z, z⟩
          have stop : ∀ (W : World) (cur : ByteArray), Tk g #[.string cur] w W → Hid (numM (L b) most = none) → RetP ((numM (L b) most).map fun x => (.int .u64 (x.1 : Int), b.extract x.2 b.size)) g w (.panicked lost8) W := by
            intro W cur hT hn
            rw [hn.out]
            exact ⟨rfl, cur, hT⟩
          have STOP := Lib.hid stop
          clear stop
          by_cases hA : y ≠ 0 ∨ i = 0
          · have YZ2 : ((y : Int) != 0) = true ∨ (((y : Int) != 0) = false ∧ ((sh : Int) == 0) = true) := by
              rcases YZ with ⟨a, b⟩ | ⟨a, b⟩
              · refine Or.inr ⟨a, ?_⟩
                rw [hi0]
                exact decide_eq_true (hA.resolve_left fun z => z b.out)
              · exact Or.inl a
            clear hi0 YZ
            by_cases hB : n1 / 2 ^ sh = y
            · rw [decide_eq_true hB] at EDV
              by_cases hM : n1 ≤ most
              · have EN : Hid (numM (L b) most = some (n1, i + 1)) := numM_yes (by rw [NH.out, if_pos ⟨hA, hB⟩]) hM
                have hM1 : (n1 : Int) ≤ most := by omega
                clear hA hB NH hM STOP
                rcases YZ2 with a | ⟨a, a2⟩
                all_goals
                  go_wp2_with fail
                  refine KT.out.mono ?_
                  rintro e z ⟨rfl, TT⟩
                  replace TT := T.trans TT
                  clear T KT
                  go_wp2_with fail
                  refine (KY.out _).mono ?_
                  rintro e z2 ⟨rfl, rfl⟩
                  go_wp2_with fail
                  refine (KY.out _).mono ?_
                  rintro e z2 ⟨rfl, rfl⟩
                  go_wp2_with fail
                  refine (KY.out _).mono ?_
                  rintro e z2 ⟨rfl, rfl⟩
                  go_wp2_with fail
                  go_ret
                  rw [EN.out, Option.map_some]
                  rw [HR.out] at TT
                  exact ⟨rfl, TT⟩
              · have EN : Hid (numM (L b) most = none) := numM_more (n := n1) (k := i + 1) (by rw [NH.out, if_pos ⟨hA, hB⟩]) hM
                have hM1 : ¬ (n1 : Int) ≤ most := by omega
                have hM2 : decide (n1 ≤ most) = false := decide_eq_false hM
                clear hA hB NH hM
                rcases YZ2 with a | ⟨a, a2⟩
                all_goals
                  go_wp2_with fail
                  refine KT.out.mono ?_
                  rintro e z ⟨rfl, TT⟩
                  replace TT := T.trans TT
                  clear T KT
                  go_wp2_with fail
                  refine (KY.out _).mono ?_
                  rintro e z2 ⟨rfl, rfl⟩
                  go_wp2_with fail
                  refine (KY.out _).mono ?_
                  rintro e z2 ⟨rfl, rfl⟩
                  go_wp2_with fail
                  refine (KN.out _).mono ?_
                  rintro e z2 ⟨rfl, rfl⟩
                  go_wp2_with fail
                  exact ⟨rfl, STOP.out _ _ TT EN⟩
            · rw [decide_eq_false hB] at EDV
              have EN : Hid (numM (L b) most = none) := numM_none (by rw [NH.out, if_neg (fun x => hB x.2)])
              clear hA hB NH
              rcases YZ2 with a | ⟨a, a2⟩
              all_goals
                go_wp2_with fail
                refine KT.out.mono ?_
                rintro e z ⟨rfl, TT⟩
                replace TT := T.trans TT
                clear T KT
                go_wp2_with fail
                refine (KY.out _).mono ?_
                rintro e z2 ⟨rfl, rfl⟩
                go_wp2_with fail
                refine (KN.out _).mono ?_
                rintro e z2 ⟨rfl, rfl⟩
                go_wp2_with fail
                exact ⟨rfl, STOP.out _ _ TT EN⟩
          · have EN : Hid (numM (L b) most = none) := numM_none (by rw [NH.out, if_neg (fun x => hA x.1)])
            have a : ((y : Int) != 0) = false := by
              rcases YZ with ⟨a, b⟩ | ⟨a, b⟩
              · exact a
              · exact absurd (Or.inl b.out) hA
            rw [decide_eq_false fun z => hA (Or.inr z)] at hi0
            clear hA EDV NH YZ
            go_wp2_with fail
            refine KT.out.mono ?_
            rintro e z ⟨rfl, TT⟩
            replace TT := T.trans TT
            clear T KT
            go_wp2_with fail
            refine (KN.out _).mono ?_
            rintro e z2 ⟨rfl, rfl⟩
            go_wp2_with fail
            exact ⟨rfl, STOP.out _ _ TT EN⟩
        · have HG := Lib.hid (HIGH.out low)
          have low1 : ¬ (y : Int) < 128 := by omega
          have sh7 : IntKind.i64.wrap ((sh : Int) + 7) = (sh : Int) + 7 := by rw [IntKind.wrap_i64]; omega
          clear LOW HIGH EDV hi0 low
          go_wp2_with fail
          refine KT.out.mono ?_
          rintro e z ⟨rfl, TT⟩
          replace TT := T.trans TT
          clear T KT
          go_wp2_with fail
          go_roundg (gk - 1)
          case measure => have := HQ.out; omega
          case rel =>
            go_light
            exact ⟨i + 1, rr, by have := HQ.out; omega, by rw [HN.out], by have := HS.out; rw [show 7 * (i + 1) = sh + 7 by omega]; rfl, HR, HB, HG, TT⟩
      · have EN : Hid (numM (L b) most = none) := numM_none (numAt_long (l := L b) (fun j hj hj2 => hno.out j hj (by have := HL.out; have := hi.out; omega)))
        have KT : Hid (Calls Try.prog 70 #[.pointer (some ⟨g, 0, none⟩), .int .i64 1] wr _) := take_no (n := 1) T.box (by omega)
        clear hno hc csz hsh
        go_wp2_with fail
        refine KT.out.mono ?_
        rintro e z ⟨rfl, rfl⟩
        go_wp2_with fail
        rw [EN.out]
        exact ⟨rfl, rfl, cur, T⟩
    · have EN : Hid (numM (L b) most = none) := numM_none (numAt_long (l := L b) (fun j hj hj2 => hno.out j hj (by omega)))
      have h1 : ¬ ((7 * i : Nat) : Int) < 64 := by omega
      clear hno hc hq l10
      generalize 7 * i = sh at *
      go_wp2_with fail
      rw [EN.out]
      exact ⟨rfl, rfl, cur, T⟩
end Go.Proofs.Ytacobmnghdibaaa
namespace Go.Proofs.Ytacobmnghdibaaa
open Go.RowKit
set_option linter.unusedVariables false
set_option linter.unusedSimpArgs false
set_option maxHeartbeats 1000000
set_option maxRecDepth 100000
theorem or64b {n s y : Nat} (hn : n < 2 ^ s) (hs : s ≤ 56) (hy : y < 256) : bits BinOp.or IntKind.u64 (n : Int) (IntKind.u64.wrap ((y : Int) * 2 ^ s)) = ((n + 2 ^ s * y : Nat) : Int) ∧ n + 2 ^ s * y < 2 ^ (s + 8) := by
  have e1 : (y : Int) * 2 ^ s = ((2 ^ s * y : Nat) : Int) := by
    rw [Int.natCast_mul, Int.natCast_pow, Int.mul_comm]; rfl
  have p8 : 2 ^ (s + 8) = 2 ^ s * 256 := by rw [Nat.pow_add]
  have lt : n + 2 ^ s * y < 2 ^ (s + 8) := by
    rw [p8]
    calc n + 2 ^ s * y < 2 ^ s + 2 ^ s * y := by omega
      _ = 2 ^ s * (y + 1) := by rw [Nat.mul_add, Nat.mul_one, Nat.add_comm]
      _ ≤ 2 ^ s * 256 := Nat.mul_le_mul_left _ hy
  have top : 2 ^ (s + 8) ≤ 18446744073709551616 := Nat.le_trans (Nat.pow_le_pow_right (by decide) (show s + 8 ≤ 64 by omega)) (by decide)
  refine ⟨?_, lt⟩
  rw [e1, IntKind.wrap_u64]
  generalize hk : 2 ^ s * y = k at *
  have k1 : ((k : Nat) : Int) % 18446744073709551616 = (k : Int) := by omega
  rw [k1, Go.Proofs.Ytacobmnghdibaaa.u64_or_nat _ _ (by omega) (by omega), ← hk]
  congr 1
  rw [Nat.or_comm, ← Nat.two_pow_add_eq_or_of_lt hn y, Nat.add_comm]
theorem vle_snoc (l : List UInt8) (b : UInt8) : vle (l ++ [b]) = vle l + 2 ^ (8 * l.length) * b.toNat := by
  induction l with
  | nil => simp [vle]
  | cons x r ih =>
    rw [List.cons_append, vle, vle, ih, List.length_cons, Nat.mul_add, Nat.mul_add 8, Nat.pow_add, Nat.add_assoc, ← Nat.mul_assoc]
    congr 2
    rw [Nat.mul_comm 256]
/-- The number of the first i bytes, the lowest first. -/
@[irreducible] def vt (l : List UInt8) (i : Nat) : Nat := vle (l.take i)
theorem vt_zero (l : List UInt8) : vt l 0 = 0 := by unfold vt; rw [List.take_zero]; rfl
theorem vt_all (l : List UInt8) {n : Nat} (h : l.length = n) : vt l n = vle l := by unfold vt; rw [List.take_of_length_le (by omega)]
theorem vt_next {l : List UInt8} {i : Nat} (h : i < l.length) : vt l (i + 1) = vt l i + 2 ^ (8 * i) * l[i].toNat := by
  unfold vt
  rw [List.take_succ_eq_append_getElem h, vle_snoc, List.length_take, Nat.min_eq_left (by omega)]
theorem fromLowest_any (s : ByteArray) (hs : s.size ≤ 8) (w : World) : Calls Try.prog 75 #[.string s] w fun e w' => e = .returned (.int .u64 (vle (L s) : Int)) ∧ w = w' := by
  have HL := Lib.hid (L_len s)
  have VA := Lib.hid (vt_all (L s) (L_len s))
  obtain ⟨n, hn⟩ : ∃ n, n = s.size := ⟨_, rfl⟩
  go_enter Try.func75, Try.ntmps75
  go_wp2_with fail
  go_loopg [3, 7] n (fun q s3 s7 wr => ∃ i : Nat, i + q = n ∧ s3 = .int .u64 (vt (L s) i : Int) ∧ s7 = .int .i64 (i : Int) ∧ Hid (vt (L s) i < 2 ^ (8 * i)) ∧ w = wr)
  case atStart => exact ⟨0, by omega, by rw [vt_zero]; rfl, rfl, by unfold Hid; rw [vt_zero]; decide, rfl⟩
  case round =>
    obtain ⟨i, hq, rfl, rfl, hv, rfl⟩ := hrel
    have HQ := Lib.hid hq
    by_cases lt : i < s.size
    · have il : (i : Int) < s.size := by omega
      have il0 : (0 : Int) ≤ i := by omega
      have ix : i < (L s).length := by rw [HL.out]; exact lt
      have NX := vt_next ix
      obtain ⟨OR, UP⟩ := or64b hv.out (show 8 * i ≤ 56 by omega) (UInt8.toNat_lt (L s)[i])
      rw [← NX] at OR UP
      have HU : Hid (vt (L s) (i + 1) < 2 ^ (8 * (i + 1))) := by rw [show 8 * (i + 1) = 8 * i + 8 by omega]; exact UP
      have ey : (s[i]'lt).toNat = (L s)[i].toNat := rfl
      have y8 := UInt8.toNat_lt (L s)[i]
      have em : IntKind.i64.wrap (8 * (i : Int)) = ((8 * i : Nat) : Int) := by rw [IntKind.wrap_i64]; omega
      have ez : (0 : Int) ≤ ((8 * i : Nat) : Int) := by omega
      have hm64 : min (8 * i) 64 = 8 * i := by omega
      have ea : IntKind.i64.wrap ((i : Int) + 1) = ((i + 1 : Nat) : Int) := by rw [IntKind.wrap_i64]; omega
      obtain ⟨n1, hn1⟩ : ∃ n, vt (L s) (i + 1) = n := ⟨_, rfl⟩
      rw [hn1] at OR
      have HN := Lib.hid hn1
      generalize (L s)[i].toNat = y at *
      generalize vt (L s) i = n0 at *
      generalize 8 * i = sh at *
      clear NX UP hv hn1 hq
      go_wp2_with fail
      go_roundg (gk - 1)
      case measure => have := HQ.out; omega
      case rel =>
        go_light
        exact ⟨i + 1, by have := HQ.out; omega, by rw [HN.out], by first | rfl | rw [ea] | go_num, HU, rfl⟩
    · have il : ¬ (i : Int) < s.size := by omega
      obtain rfl : i = n := by omega
      have E : vt (L s) i = vle (L s) := by rw [hn]; exact VA.out
      rw [E]
      clear hv hq hn E
      go_wp2_with fail
      go_ret
      exact ⟨rfl, rfl⟩
/-- The text that begins here, if it has at most so many bytes: how many, and how many its number has. -/
@[irreducible] def textM (l : List UInt8) (most : Int) : Option (Nat × Nat) := if (numOf l).2 ≠ 0 ∧ 0 ≤ most ∧ ((numOf l).1 : Int) ≤ most ∧ (numOf l).1 + (numOf l).2 ≤ l.length then some (numOf l) else none
theorem textM_eq (l : List UInt8) (most : Int) : textM l most = if (numOf l).2 ≠ 0 ∧ 0 ≤ most ∧ ((numOf l).1 : Int) ≤ most ∧ (numOf l).1 + (numOf l).2 ≤ l.length then some (numOf l) else none := by unfold textM; rfl
theorem textM_neg {l : List UInt8} {most : Int} (h : most < 0) : textM l most = none := by rw [textM_eq, if_neg]; omega
theorem textM_none {l : List UInt8} {m : Nat} (h : numM l m = none) : textM l m = none := by
  rw [numM_eq] at h
  rw [textM_eq, if_neg]
  intro x
  rw [if_pos ⟨x.1, by have := x.2.2.1; omega⟩] at h
  cases h
theorem textM_some {l : List UInt8} {m n k : Nat} (h : numM l m = some (n, k)) : textM l m = if n + k ≤ l.length then some (n, k) else none := by
  rw [numM_eq] at h
  split at h
  · rename_i c
    injection h with h
    rw [textM_eq]
    rw [h] at c ⊢
    by_cases z : n + k ≤ l.length
    · rw [if_pos z, if_pos ⟨c.1, by omega, by have := c.2; dsimp only at *; omega, z⟩]
    · rw [if_neg z, if_neg fun x => z x.2.2.2]
  · cases h
theorem readT_textM (s : ByteArray) (p : Int) (lo : Bool) (most : Int) : readT s p lo most = if okR s.size p lo = true then textM (L (restB s p lo)) most else none := by
  rw [textM_eq, L_len]
  by_cases h : okR s.size p lo = true
  · rw [if_pos h]
    by_cases c : (numOf (L (restB s p lo))).2 ≠ 0 ∧ 0 ≤ most ∧ ((numOf (L (restB s p lo))).1 : Int) ≤ most ∧ (numOf (L (restB s p lo))).1 + (numOf (L (restB s p lo))).2 ≤ (restB s p lo).size
    · rw [if_pos c, readT_some ⟨h, c⟩]
    · rw [if_neg c, readT_none fun x => c x.2]
  · rw [if_neg h, readT_none fun x => h x.1]
theorem clone8_any (t : ByteArray) (ht : t.size ≤ 281474976710656) (w : World) : Calls Try.prog 73 #[.string t] w fun e w' => e = .returned (.string t) ∧ Below w.heap.size w w' := by
  have K := Lib.hid (fun W => Try.stringslite_Clone t W ht)
  clear ht
  go_enter Try.func73, Try.ntmps73
  go_wp2_with fail
  refine (K.out _).mono ?_
  rintro e W1 ⟨rfl, B1⟩
  go_wp2_with fail
  go_ret
  exact ⟨rfl, B1⟩
theorem RetP.none_ {x : Option (Value × ByteArray)} {g : Nat} {w W : World} {r : ByteArray} (hx : x = none) (h : Tk g #[.string r] w W) : RetP x g w (.panicked lost8) W := by rw [hx]; exact ⟨rfl, r, h⟩
theorem text_any {b : ByteArray} {g : Nat} {w : World} (h : Box w g #[.string b]) (most : Int) (hm : -9223372036854775808 ≤ most ∧ most ≤ 9223372036854775807) (hs : b.size ≤ 281474976710656) : Calls Try.prog 46 #[.pointer (some ⟨g, 0, none⟩), .int .i64 most] w fun e w' =>
    RetP ((textM (L b) most).map fun x => (.string (b.extract x.2 (x.2 + x.1)), b.extract (x.2 + x.1) b.size)) g w e w' := by
  have KY := Lib.hid need_yes
  have KN := Lib.hid need_no
  by_cases neg : most < 0
  · have EN := Lib.hid (textM_neg (l := L b) neg)
    have n1 : ¬ (0 : Int) ≤ most := by omega
    clear neg
    go_enter Try.func46, Try.ntmps46
    go_wp2_with fail
    refine (KN.out _).mono ?_
    rintro e z ⟨rfl, rfl⟩
    go_wp2_with fail
    exact ⟨rfl, RetP.none_ (by rw [EN.out]; rfl) (Tk.refl h)⟩
  · obtain ⟨m, rfl⟩ : ∃ m : Nat, most = m := ⟨most.toNat, by omega⟩
    have n1 : (0 : Int) ≤ m := by omega
    have wm : IntKind.u64.wrap (m : Int) = m := by rw [IntKind.wrap_u64]; omega
    have KM := Lib.hid (number_any h m hs)
    cases hn : numM (L b) m with
    | none =>
      rw [hn] at KM
      have EN := Lib.hid (textM_none hn)
      clear hn neg
      go_enter Try.func46, Try.ntmps46
      go_wp2_with fail
      refine (KY.out _).mono ?_
      rintro e z ⟨rfl, rfl⟩
      go_wp2_with fail
      refine KM.out.mono ?_
      rintro e z ⟨rfl, r, T⟩
      go_wp2_with fail
      exact ⟨rfl, RetP.none_ (by rw [EN.out]; rfl) T⟩
    | some x =>
      obtain ⟨n, k⟩ := x
      obtain ⟨l1, l2, l3⟩ := numM_le hn
      rw [L_len] at l1
      have ET := textM_some hn
      rw [L_len] at ET
      rw [hn, Option.map_some] at KM
      dsimp only at KM
      have wn : IntKind.i64.wrap (n : Int) = n := by rw [IntKind.wrap_i64]; omega
      have rs : (b.extract k b.size).size = b.size - k := by rw [ByteArray.size_extract]; omega
      by_cases fits : n + k ≤ b.size
      · rw [if_pos fits] at ET
        have EN := Lib.hid ET
        have E1 : (b.extract k b.size).extract 0 n = b.extract k (k + n) := L_inj (by
          rw [L_take, L_drop, L_ext, Nat.add_sub_cancel_left])
        have E2 : (b.extract k b.size).extract n (b.extract k b.size).size = b.extract (k + n) b.size := L_inj (by
          rw [L_drop, L_drop, L_drop, List.drop_drop])
        have KT : Hid (∀ W, Box W g #[.string (b.extract k b.size)] → _) := fun W hW => take_yes (w := W) (n := n) hW (by omega) (by omega)
        rw [E1, E2] at KT
        have KC : Hid (∀ W, _) := fun W => clone8_any (b.extract k (k + n)) (by rw [ByteArray.size_extract]; omega) W
        clear hn neg ET E1 E2 rs fits hm l1 l2 l3 hs h
        generalize b.extract k b.size = b1 at *
        go_enter Try.func46, Try.ntmps46
        go_wp2_with fail
        refine (KY.out _).mono ?_
        rintro e z ⟨rfl, rfl⟩
        go_wp2_with fail
        refine KM.out.mono ?_
        rintro e z ⟨rfl, T⟩
        go_wp2_with fail
        refine (KT.out _ T.box).mono ?_
        rintro e z2 ⟨rfl, T2⟩
        replace T := T.trans T2
        go_wp2_with fail
        refine (KC.out _).mono ?_
        rintro e z3 ⟨rfl, B3⟩
        replace T := T.next B3
        go_wp2_with fail
        go_ret
        rw [EN.out, Option.map_some]
        exact ⟨rfl, T⟩
      · rw [if_neg fits] at ET
        have EN := Lib.hid ET
        have KT : Hid (∀ W, Box W g #[.string (b.extract k b.size)] → _) := fun W hW => take_no (w := W) (n := n) hW (by omega)
        clear hn neg ET rs fits hm l1 l2 l3 hs h
        generalize b.extract k b.size = b1 at *
        go_enter Try.func46, Try.ntmps46
        go_wp2_with fail
        refine (KY.out _).mono ?_
        rintro e z ⟨rfl, rfl⟩
        go_wp2_with fail
        refine KM.out.mono ?_
        rintro e z ⟨rfl, T⟩
        go_wp2_with fail
        refine (KT.out _ T.box).mono ?_
        rintro e z2 ⟨rfl, rfl⟩
        go_wp2_with fail
        exact ⟨rfl, RetP.none_ (by rw [EN.out]; rfl) T⟩
end Go.Proofs.Ytacobmnghdibaaa
