/- The program's walk of number. The program's walks of fromLowest, text and wide. The program's walks of wide and ahead. The program's walk of ahead, where nothing may be asked. The program's walks of asked, and what ends it: a reader is moved, or lost. The program's walks of asked and of Number, Text. The program's walks of asked and of Text. -/
import Derived.Test.YthbgbgobfoecoaaJ04
import Derived.Defers
import Derived.Recover
import Derived.Laws.Pointers
namespace Go.Proofs.Ythbgbgobfoecoaa
open Go.RowKit
set_option linter.unusedVariables false
set_option linter.unusedSimpArgs false
set_option maxHeartbeats 1000000
set_option maxRecDepth 100000
/-- What a call on the rest answers: a value, and what is left; or it ends, for something is missing. -/
def RetP (x : Option (Value × ByteArray)) (g : Nat) (w : World) (e : Ending) (w' : World) : Prop :=
  match x with
  | some (v, r) => e = .returned v ∧ Tk g #[.string r] w w'
  | none => e = .panicked lost8 ∧ ∃ r : ByteArray, Tk g #[.string r] w w'
theorem or64 {n s y : Nat} (hn : n < 2 ^ s) (hs : s ≤ 63) (hy : y < 256) : bits BinOp.or IntKind.u64 (n : Int) (IntKind.u64.wrap ((y : Int) % 128 * 2 ^ s)) = ((n + 2 ^ s * (y % 128) % 18446744073709551616 : Nat) : Int) := by
  have e1 : (y : Int) % 128 * 2 ^ s = ((2 ^ s * (y % 128) : Nat) : Int) := by
    rw [Int.natCast_mul, Int.natCast_pow, Int.mul_comm]; rfl
  have e2 : 2 ^ s * (y % 128) % 18446744073709551616 = 2 ^ s * (y % 128 % 2 ^ (64 - s)) := by
    have : 18446744073709551616 = 2 ^ s * 2 ^ (64 - s) := by rw [← Nat.pow_add, show s + (64 - s) = 64 by omega]
    rw [this, Nat.mul_mod_mul_left]
  rw [e1, IntKind.wrap_u64, show ((2 ^ s * (y % 128) : Nat) : Int) % 18446744073709551616 = ((2 ^ s * (y % 128) % 18446744073709551616 : Nat) : Int) from rfl, e2]
  have l1 : 2 ^ s * (y % 128 % 2 ^ (64 - s)) < 18446744073709551616 := by rw [← e2]; exact Nat.mod_lt _ (by decide)
  have l2 : n < 18446744073709551616 := Nat.lt_of_lt_of_le hn (Nat.le_trans (Nat.pow_le_pow_right (by decide) hs) (by decide))
  generalize y % 128 % 2 ^ (64 - s) = k at *
  rw [Go.Proofs.Ythbgbgobfoecoaa.u64_or_nat _ _ l2 l1]
  congr 1
  rw [Nat.or_comm, ← Nat.two_pow_add_eq_or_of_lt hn k, Nat.add_comm]
theorem number_any {b : ByteArray} {g : Nat} {w : World} (h : Box w g #[.string b]) (most : Nat) (hs : b.size ≤ 281474976710656) : Calls Try.prog 38 #[.pointer (some ⟨g, 0, none⟩), .int .u64 (most : Int)] w fun e w' =>
    RetP ((numM (L b) most).map fun x => (.int .u64 (x.1 : Int), b.extract x.2 b.size)) g w e w' := by
  have HL := Lib.hid (L_len b)
  have KY := Lib.hid need_yes
  have KN := Lib.hid need_no
  go_enter Try.func38, Try.ntmps38
  go_wp2_with fail
  go_loopg [5, 6] 10 (fun q s5 s6 wr => ∃ (i : Nat) (cur : ByteArray), i + q = 10 ∧ s5 = .int .u64 (v64 (L b) i : Int) ∧ s6 = .int .i64 ((7 * i : Nat) : Int) ∧ Hid (cur = b.extract i b.size) ∧ Hid (i ≤ b.size) ∧ Hid (∀ j (hj : j < (L b).length), j < i → ¬ (L b)[j].toNat < 128) ∧ Tk g #[.string cur] w wr)
  case atStart => exact ⟨0, b, rfl, by rw [v64_zero]; rfl, rfl, by unfold Hid; simp, Nat.zero_le _, fun j _ hj => absurd hj (by omega), Tk.refl h⟩
  case round =>
    obtain ⟨i, cur, hq, rfl, rfl, hc, hi, hno, T⟩ := hrel
    have HQ := Lib.hid hq
    by_cases l10 : i < 10
    · obtain ⟨sh, hsh⟩ : ∃ s, s = 7 * i := ⟨_, rfl⟩
      rw [← hsh]
      have h1 : (sh : Int) < 64 := by omega
      have hz : (0 : Int) ≤ sh := by omega
      have csz : cur.size = b.size - i := by rw [hc.out, ByteArray.size_extract]; omega
      by_cases c1 : i < b.size
      · have ix : i < (L b).length := by rw [HL.out]; exact c1
        have KT : Hid (Calls Try.prog 37 #[.pointer (some ⟨g, 0, none⟩), .int .i64 1] wr _) := take_yes (n := 1) T.box (by omega) (by omega)
        obtain ⟨t, ht⟩ : ∃ t, t = cur.extract 0 1 := ⟨_, rfl⟩
        obtain ⟨rr, hr⟩ : ∃ t, t = cur.extract 1 cur.size := ⟨_, rfl⟩
        rw [← ht, ← hr] at KT
        have t0 : 0 < t.size := by rw [ht, ByteArray.size_extract]; omega
        have t1 : (0 : Int) < t.size := by omega
        have hy : (t[0]'t0).toNat = (L b)[i].toNat := by
          have e : (t[0]'t0).toNat = ((L t)[0]'(by rw [L_len]; exact t0)).toNat := rfl
          have e2 : L t = ((L b).drop i).take 1 := by rw [ht, L_take, hc.out, L_drop]
          rw [e]
          congr 1
          simp only [e2, List.getElem_take, List.getElem_drop]
          congr 1
        have HR : Hid (rr = b.extract (i + 1) b.size) := by
          refine L_inj ?_
          rw [hr, L_drop, hc.out, L_drop, L_drop, List.drop_drop]
        have y8 := UInt8.toNat_lt (L b)[i]
        have OR := or64 (n := v64 (L b) i) (s := sh) (y := (L b)[i].toNat) (by rw [hsh, ← pow7]; exact (v64_val (by omega)).2) (by omega) y8
        have NX := v64_next ix (show i ≤ 9 by omega)
        have VL := v64_lt (L b) (i + 1)
        rw [hsh, ← pow7, ← NX, ← hsh] at OR
        have LOW := Lib.hid (fun (low : (L b)[i].toNat < 128) => num_here ix (by omega) low (fun j hj => hno.out j (by omega) hj))
        have HIGH : Hid (¬ (L b)[i].toNat < 128 → ∀ j (hj : j < (L b).length), j < i + 1 → ¬ (L b)[j].toNat < 128) := by
          intro h j hj hj2
          by_cases e : j < i
          · exact hno.out j hj e
          · have e2 : j = i := by omega
            subst e2
            exact h
        have HB : Hid (i + 1 ≤ b.size) := by unfold Hid; omega
        rw [← hsh] at LOW
        have HS := Lib.hid hsh
        have hi0 : ((sh : Int) == 0) = decide (i = 0) := by
          by_cases z : i = 0
          · rw [hsh, z]; rfl
          · rw [decide_eq_false z]; simp; omega
        have EDV : ((v64 (L b) (i + 1) : Int) / 2 ^ sh == ((L b)[i].toNat : Int)) = decide (v64 (L b) (i + 1) / 2 ^ sh = (L b)[i].toNat) := by
          have : ((v64 (L b) (i + 1) : Int) / 2 ^ sh) = ((v64 (L b) (i + 1) / 2 ^ sh : Nat) : Int) := by
            rw [Int.natCast_ediv, Int.natCast_pow]; rfl
          rw [this]
          by_cases z : v64 (L b) (i + 1) / 2 ^ sh = (L b)[i].toNat
          · rw [z]; simp
          · rw [decide_eq_false z]; simp; exact fun z2 => z (by exact_mod_cast z2)
        generalize (L b)[i].toNat = y at *
        obtain ⟨n1, hn1⟩ : ∃ n, v64 (L b) (i + 1) = n := ⟨_, rfl⟩
        rw [hn1] at OR NX VL LOW EDV
        have HN := Lib.hid hn1
        clear hn1
        generalize v64 (L b) i = n0 at *
        clear hsh ht hr hc NX hno hi csz
        by_cases low : y < 128
        · have NH := Lib.hid (LOW.out low)
          clear LOW HIGH
          have low1 : (y : Int) < 128 := by omega
          have YZ : (((y : Int) != 0) = false ∧ Hid (y = 0)) ∨ (((y : Int) != 0) = true ∧ Hid (y ≠ 0)) := by
            by_cases z : y = 0
            · exact Or.inl ⟨by rw [z]; rfl, z⟩
            · exact Or.inr ⟨by simp; exact z, z⟩
          have stop : ∀ (W : World) (cur : ByteArray), Tk g #[.string cur] w W → Hid (numM (L b) most = none) → RetP ((numM (L b) most).map fun x => (.int .u64 (x.1 : Int), b.extract x.2 b.size)) g w (.panicked lost8) W := by
            intro W cur hT hn
            rw [hn.out]
            exact ⟨rfl, cur, hT⟩
          have STOP := Lib.hid stop
          clear stop
          by_cases hA : y ≠ 0 ∨ i = 0
          · have YZ2 : ((y : Int) != 0) = true ∨ (((y : Int) != 0) = false ∧ ((sh : Int) == 0) = true) := by
              rcases YZ with ⟨a, b⟩ | ⟨a, b⟩
              · refine Or.inr ⟨a, ?_⟩
                rw [hi0]
                exact decide_eq_true (hA.resolve_left fun z => z b.out)
              · exact Or.inl a
            clear hi0 YZ
            by_cases hB : n1 / 2 ^ sh = y
            · rw [decide_eq_true hB] at EDV
              by_cases hM : n1 ≤ most
              · have EN : Hid (numM (L b) most = some (n1, i + 1)) := numM_yes (by rw [NH.out, if_pos ⟨hA, hB⟩]) hM
                have hM1 : (n1 : Int) ≤ most := by omega
                clear hA hB NH hM STOP
                rcases YZ2 with a | ⟨a, a2⟩
                all_goals
                  go_wp2_with fail
                  refine KT.out.mono ?_
                  rintro e z ⟨rfl, TT⟩
                  replace TT := T.trans TT
                  clear T KT
                  go_wp2_with fail
                  refine (KY.out _).mono ?_
                  rintro e z2 ⟨rfl, rfl⟩
                  go_wp2_with fail
                  refine (KY.out _).mono ?_
                  rintro e z2 ⟨rfl, rfl⟩
                  go_wp2_with fail
                  refine (KY.out _).mono ?_
                  rintro e z2 ⟨rfl, rfl⟩
                  go_wp2_with fail
                  go_ret
                  rw [EN.out, Option.map_some]
                  rw [HR.out] at TT
                  exact ⟨rfl, TT⟩
              · have EN : Hid (numM (L b) most = none) := numM_more (n := n1) (k := i + 1) (by rw [NH.out, if_pos ⟨hA, hB⟩]) hM
                have hM1 : ¬ (n1 : Int) ≤ most := by omega
                have hM2 : decide (n1 ≤ most) = false := decide_eq_false hM
                clear hA hB NH hM
                rcases YZ2 with a | ⟨a, a2⟩
                all_goals
                  go_wp2_with fail
                  refine KT.out.mono ?_
                  rintro e z ⟨rfl, TT⟩
                  replace TT := T.trans TT
                  clear T KT
                  go_wp2_with fail
                  refine (KY.out _).mono ?_
                  rintro e z2 ⟨rfl, rfl⟩
                  go_wp2_with fail
                  refine (KY.out _).mono ?_
                  rintro e z2 ⟨rfl, rfl⟩
                  go_wp2_with fail
                  refine (KN.out _).mono ?_
                  rintro e z2 ⟨rfl, rfl⟩
                  go_wp2_with fail
                  exact ⟨rfl, STOP.out _ _ TT EN⟩
            · rw [decide_eq_false hB] at EDV
              have EN : Hid (numM (L b) most = none) := numM_none (by rw [NH.out, if_neg (fun x => hB x.2)])
              clear hA hB NH
              rcases YZ2 with a | ⟨a, a2⟩
              all_goals
                go_wp2_with fail
                refine KT.out.mono ?_
                rintro e z ⟨rfl, TT⟩
                replace TT := T.trans TT
                clear T KT
                go_wp2_with fail
                refine (KY.out _).mono ?_
                rintro e z2 ⟨rfl, rfl⟩
                go_wp2_with fail
                refine (KN.out _).mono ?_
                rintro e z2 ⟨rfl, rfl⟩
                go_wp2_with fail
                exact ⟨rfl, STOP.out _ _ TT EN⟩
          · have EN : Hid (numM (L b) most = none) := numM_none (by rw [NH.out, if_neg (fun x => hA x.1)])
            have a : ((y : Int) != 0) = false := by
              rcases YZ with ⟨a, b⟩ | ⟨a, b⟩
              · exact a
              · exact absurd (Or.inl b.out) hA
            rw [decide_eq_false fun z => hA (Or.inr z)] at hi0
            clear hA EDV NH YZ
            go_wp2_with fail
            refine KT.out.mono ?_
            rintro e z ⟨rfl, TT⟩
            replace TT := T.trans TT
            clear T KT
            go_wp2_with fail
            refine (KN.out _).mono ?_
            rintro e z2 ⟨rfl, rfl⟩
            go_wp2_with fail
            exact ⟨rfl, STOP.out _ _ TT EN⟩
        · have HG := Lib.hid (HIGH.out low)
          have low1 : ¬ (y : Int) < 128 := by omega
          have sh7 : IntKind.i64.wrap ((sh : Int) + 7) = (sh : Int) + 7 := by rw [IntKind.wrap_i64]; omega
          clear LOW HIGH EDV hi0 low
          go_wp2_with fail
          refine KT.out.mono ?_
          rintro e z ⟨rfl, TT⟩
          replace TT := T.trans TT
          clear T KT
          go_wp2_with fail
          go_roundg (gk - 1)
          case measure => have := HQ.out; omega
          case rel =>
            go_light
            exact ⟨i + 1, rr, by have := HQ.out; omega, by rw [HN.out], by have := HS.out; rw [show 7 * (i + 1) = sh + 7 by omega]; rfl, HR, HB, HG, TT⟩
      · have EN : Hid (numM (L b) most = none) := numM_none (numAt_long (l := L b) (fun j hj hj2 => hno.out j hj (by have := HL.out; have := hi.out; omega)))
        have KT : Hid (Calls Try.prog 37 #[.pointer (some ⟨g, 0, none⟩), .int .i64 1] wr _) := take_no (n := 1) T.box (by omega)
        clear hno hc csz hsh
        go_wp2_with fail
        refine KT.out.mono ?_
        rintro e z ⟨rfl, rfl⟩
        go_wp2_with fail
        rw [EN.out]
        exact ⟨rfl, rfl, cur, T⟩
    · have EN : Hid (numM (L b) most = none) := numM_none (numAt_long (l := L b) (fun j hj hj2 => hno.out j hj (by omega)))
      have h1 : ¬ ((7 * i : Nat) : Int) < 64 := by omega
      clear hno hc hq l10
      generalize 7 * i = sh at *
      go_wp2_with fail
      rw [EN.out]
      exact ⟨rfl, rfl, cur, T⟩
end Go.Proofs.Ythbgbgobfoecoaa
namespace Go.Proofs.Ythbgbgobfoecoaa
open Go.RowKit
set_option linter.unusedVariables false
set_option linter.unusedSimpArgs false
set_option maxHeartbeats 1000000
set_option maxRecDepth 100000
theorem or64b {n s y : Nat} (hn : n < 2 ^ s) (hs : s ≤ 56) (hy : y < 256) : bits BinOp.or IntKind.u64 (n : Int) (IntKind.u64.wrap ((y : Int) * 2 ^ s)) = ((n + 2 ^ s * y : Nat) : Int) ∧ n + 2 ^ s * y < 2 ^ (s + 8) := by
  have e1 : (y : Int) * 2 ^ s = ((2 ^ s * y : Nat) : Int) := by
    rw [Int.natCast_mul, Int.natCast_pow, Int.mul_comm]; rfl
  have p8 : 2 ^ (s + 8) = 2 ^ s * 256 := by rw [Nat.pow_add]
  have lt : n + 2 ^ s * y < 2 ^ (s + 8) := by
    rw [p8]
    calc n + 2 ^ s * y < 2 ^ s + 2 ^ s * y := by omega
      _ = 2 ^ s * (y + 1) := by rw [Nat.mul_add, Nat.mul_one, Nat.add_comm]
      _ ≤ 2 ^ s * 256 := Nat.mul_le_mul_left _ hy
  have top : 2 ^ (s + 8) ≤ 18446744073709551616 := Nat.le_trans (Nat.pow_le_pow_right (by decide) (show s + 8 ≤ 64 by omega)) (by decide)
  refine ⟨?_, lt⟩
  rw [e1, IntKind.wrap_u64]
  generalize hk : 2 ^ s * y = k at *
  have k1 : ((k : Nat) : Int) % 18446744073709551616 = (k : Int) := by omega
  rw [k1, Go.Proofs.Ythbgbgobfoecoaa.u64_or_nat _ _ (by omega) (by omega), ← hk]
  congr 1
  rw [Nat.or_comm, ← Nat.two_pow_add_eq_or_of_lt hn y, Nat.add_comm]
theorem vle_snoc (l : List UInt8) (b : UInt8) : vle (l ++ [b]) = vle l + 2 ^ (8 * l.length) * b.toNat := by
  induction l with
  | nil => simp [vle]
  | cons x r ih =>
    rw [List.cons_append, vle, vle, ih, List.length_cons, Nat.mul_add, Nat.mul_add 8, Nat.pow_add, Nat.add_assoc, ← Nat.mul_assoc]
    congr 2
    rw [Nat.mul_comm 256]
/-- The number of the first i bytes, the lowest first. -/
@[irreducible] def vt (l : List UInt8) (i : Nat) : Nat := vle (l.take i)
theorem vt_zero (l : List UInt8) : vt l 0 = 0 := by unfold vt; rw [List.take_zero]; rfl
theorem vt_all (l : List UInt8) {n : Nat} (h : l.length = n) : vt l n = vle l := by unfold vt; rw [List.take_of_length_le (by omega)]
theorem vt_next {l : List UInt8} {i : Nat} (h : i < l.length) : vt l (i + 1) = vt l i + 2 ^ (8 * i) * l[i].toNat := by
  unfold vt
  rw [List.take_succ_eq_append_getElem h, vle_snoc, List.length_take, Nat.min_eq_left (by omega)]
/-- The text that begins here, if it has at most so many bytes: how many, and how many its number has. -/
@[irreducible] def textM (l : List UInt8) (most : Int) : Option (Nat × Nat) := if (numOf l).2 ≠ 0 ∧ 0 ≤ most ∧ ((numOf l).1 : Int) ≤ most ∧ (numOf l).1 + (numOf l).2 ≤ l.length then some (numOf l) else none
theorem textM_eq (l : List UInt8) (most : Int) : textM l most = if (numOf l).2 ≠ 0 ∧ 0 ≤ most ∧ ((numOf l).1 : Int) ≤ most ∧ (numOf l).1 + (numOf l).2 ≤ l.length then some (numOf l) else none := by unfold textM; rfl
theorem textM_neg {l : List UInt8} {most : Int} (h : most < 0) : textM l most = none := by rw [textM_eq, if_neg]; omega
theorem textM_none {l : List UInt8} {m : Nat} (h : numM l m = none) : textM l m = none := by
  rw [numM_eq] at h
  rw [textM_eq, if_neg]
  intro x
  rw [if_pos ⟨x.1, by have := x.2.2.1; omega⟩] at h
  cases h
theorem textM_some {l : List UInt8} {m n k : Nat} (h : numM l m = some (n, k)) : textM l m = if n + k ≤ l.length then some (n, k) else none := by
  rw [numM_eq] at h
  split at h
  · rename_i c
    injection h with h
    rw [textM_eq]
    rw [h] at c ⊢
    by_cases z : n + k ≤ l.length
    · rw [if_pos z, if_pos ⟨c.1, by omega, by have := c.2; dsimp only at *; omega, z⟩]
    · rw [if_neg z, if_neg fun x => z x.2.2.2]
  · cases h
theorem readT_textM (s : ByteArray) (p : Int) (lo : Bool) (most : Int) : readT s p lo most = if okR s.size p lo = true then textM (L (restB s p lo)) most else none := by
  rw [textM_eq, L_len]
  by_cases h : okR s.size p lo = true
  · rw [if_pos h]
    by_cases c : (numOf (L (restB s p lo))).2 ≠ 0 ∧ 0 ≤ most ∧ ((numOf (L (restB s p lo))).1 : Int) ≤ most ∧ (numOf (L (restB s p lo))).1 + (numOf (L (restB s p lo))).2 ≤ (restB s p lo).size
    · rw [if_pos c, readT_some ⟨h, c⟩]
    · rw [if_neg c, readT_none fun x => c x.2]
  · rw [if_neg h, readT_none fun x => h x.1]
theorem clone8_any (t : ByteArray) (ht : t.size ≤ 281474976710656) (w : World) : Calls Try.prog 39 #[.string t] w fun e w' => e = .returned (.string t) ∧ Below w.heap.size w w' := by
  have K := Lib.hid (fun W => Try.stringslite_Clone t W ht)
  clear ht
  go_enter Try.func39, Try.ntmps39
  go_wp2_with fail
  refine (K.out _).mono ?_
  rintro e W1 ⟨rfl, B1⟩
  go_wp2_with fail
  go_ret
  exact ⟨rfl, B1⟩
theorem RetP.none_ {x : Option (Value × ByteArray)} {g : Nat} {w W : World} {r : ByteArray} (hx : x = none) (h : Tk g #[.string r] w W) : RetP x g w (.panicked lost8) W := by rw [hx]; exact ⟨rfl, r, h⟩
theorem text_any {b : ByteArray} {g : Nat} {w : World} (h : Box w g #[.string b]) (most : Int) (hm : -9223372036854775808 ≤ most ∧ most ≤ 9223372036854775807) (hs : b.size ≤ 281474976710656) : Calls Try.prog 28 #[.pointer (some ⟨g, 0, none⟩), .int .i64 most] w fun e w' =>
    RetP ((textM (L b) most).map fun x => (.string (b.extract x.2 (x.2 + x.1)), b.extract (x.2 + x.1) b.size)) g w e w' := by
  have KY := Lib.hid need_yes
  have KN := Lib.hid need_no
  by_cases neg : most < 0
  · have EN := Lib.hid (textM_neg (l := L b) neg)
    have n1 : ¬ (0 : Int) ≤ most := by omega
    clear neg
    go_enter Try.func28, Try.ntmps28
    go_wp2_with fail
    refine (KN.out _).mono ?_
    rintro e z ⟨rfl, rfl⟩
    go_wp2_with fail
    exact ⟨rfl, RetP.none_ (by rw [EN.out]; rfl) (Tk.refl h)⟩
  · obtain ⟨m, rfl⟩ : ∃ m : Nat, most = m := ⟨most.toNat, by omega⟩
    have n1 : (0 : Int) ≤ m := by omega
    have wm : IntKind.u64.wrap (m : Int) = m := by rw [IntKind.wrap_u64]; omega
    have KM := Lib.hid (number_any h m hs)
    cases hn : numM (L b) m with
    | none =>
      rw [hn] at KM
      have EN := Lib.hid (textM_none hn)
      clear hn neg
      go_enter Try.func28, Try.ntmps28
      go_wp2_with fail
      refine (KY.out _).mono ?_
      rintro e z ⟨rfl, rfl⟩
      go_wp2_with fail
      refine KM.out.mono ?_
      rintro e z ⟨rfl, r, T⟩
      go_wp2_with fail
      exact ⟨rfl, RetP.none_ (by rw [EN.out]; rfl) T⟩
    | some x =>
      obtain ⟨n, k⟩ := x
      obtain ⟨l1, l2, l3⟩ := numM_le hn
      rw [L_len] at l1
      have ET := textM_some hn
      rw [L_len] at ET
      rw [hn, Option.map_some] at KM
      dsimp only at KM
      have wn : IntKind.i64.wrap (n : Int) = n := by rw [IntKind.wrap_i64]; omega
      have rs : (b.extract k b.size).size = b.size - k := by rw [ByteArray.size_extract]; omega
      by_cases fits : n + k ≤ b.size
      · rw [if_pos fits] at ET
        have EN := Lib.hid ET
        have E1 : (b.extract k b.size).extract 0 n = b.extract k (k + n) := L_inj (by
          rw [L_take, L_drop, L_ext, Nat.add_sub_cancel_left])
        have E2 : (b.extract k b.size).extract n (b.extract k b.size).size = b.extract (k + n) b.size := L_inj (by
          rw [L_drop, L_drop, L_drop, List.drop_drop])
        have KT : Hid (∀ W, Box W g #[.string (b.extract k b.size)] → _) := fun W hW => take_yes (w := W) (n := n) hW (by omega) (by omega)
        rw [E1, E2] at KT
        have KC : Hid (∀ W, _) := fun W => clone8_any (b.extract k (k + n)) (by rw [ByteArray.size_extract]; omega) W
        clear hn neg ET E1 E2 rs fits hm l1 l2 l3 hs h
        generalize b.extract k b.size = b1 at *
        go_enter Try.func28, Try.ntmps28
        go_wp2_with fail
        refine (KY.out _).mono ?_
        rintro e z ⟨rfl, rfl⟩
        go_wp2_with fail
        refine KM.out.mono ?_
        rintro e z ⟨rfl, T⟩
        go_wp2_with fail
        refine (KT.out _ T.box).mono ?_
        rintro e z2 ⟨rfl, T2⟩
        replace T := T.trans T2
        go_wp2_with fail
        refine (KC.out _).mono ?_
        rintro e z3 ⟨rfl, B3⟩
        replace T := T.next B3
        go_wp2_with fail
        go_ret
        rw [EN.out, Option.map_some]
        exact ⟨rfl, T⟩
      · rw [if_neg fits] at ET
        have EN := Lib.hid ET
        have KT : Hid (∀ W, Box W g #[.string (b.extract k b.size)] → _) := fun W hW => take_no (w := W) (n := n) hW (by omega)
        clear hn neg ET rs fits hm l1 l2 l3 hs h
        generalize b.extract k b.size = b1 at *
        go_enter Try.func28, Try.ntmps28
        go_wp2_with fail
        refine (KY.out _).mono ?_
        rintro e z ⟨rfl, rfl⟩
        go_wp2_with fail
        refine KM.out.mono ?_
        rintro e z ⟨rfl, T⟩
        go_wp2_with fail
        refine (KT.out _ T.box).mono ?_
        rintro e z2 ⟨rfl, rfl⟩
        go_wp2_with fail
        exact ⟨rfl, RetP.none_ (by rw [EN.out]; rfl) T⟩
end Go.Proofs.Ythbgbgobfoecoaa
namespace Go.Proofs.Ythbgbgobfoecoaa
open Go.RowKit
set_option linter.unusedVariables false
set_option linter.unusedSimpArgs false
set_option maxHeartbeats 1000000
set_option maxRecDepth 100000
theorem Tk.far {w W : World} {g r : Nat} {cs : Array Value} (h : Tk g cs w W) (hr : w.heap.size ≤ r) (ne : g ≠ r) (i : Nat) (u : Value) : Tk g cs w (W.setCell ⟨r, i, none⟩ u) :=
  ⟨h.box.far ne u, h.os, h.tape, h.output, by rw [show (W.setCell ⟨r, i, none⟩ u).heap.size = W.heap.size by simp [World.setCell]]; exact h.size, fun k hk hn => (Below.heap_setCell W ⟨r, i, none⟩ u k (by show k ≠ r; omega)).trans (h.block k hk hn)⟩
/-- Are sixteen bytes there? -/
@[irreducible] def wideM (n : Nat) : Option Nat := if 16 ≤ n then some 16 else none
theorem wideM_yes {n : Nat} (h : 16 ≤ n) : wideM n = some 16 := by unfold wideM; rw [if_pos h]
theorem wideM_no {n : Nat} (h : ¬ 16 ≤ n) : wideM n = none := by unfold wideM; rw [if_neg h]
theorem readW_wideM (s : ByteArray) (p : Int) (lo : Bool) : readW s p lo = if okR s.size p lo = true then wideM (restB s p lo).size else none := by
  by_cases h : okR s.size p lo = true
  · rw [if_pos h]
    by_cases c : 16 ≤ (restB s p lo).size
    · rw [wideM_yes c, readW_some ⟨h, c⟩]
    · rw [wideM_no c, readW_none fun x => c x.2]
  · rw [if_neg h, readW_none fun x => h x.1]
/-- What is ahead, in a block of its own. -/
theorem ahead_yes {s : ByteArray} {i g : Nat} {w : World} (h : Box w g #[.string s, .int .i64 (i : Int), .bool false]) (hi : i ≤ s.size) (hs : s.size ≤ 281474976710656) : Calls Try.prog 35 #[.pointer (some ⟨g, 0, none⟩)] w fun e w' =>
    ∃ r, e = .returned (.pointer (some ⟨r, 0, none⟩)) ∧ w.heap.size ≤ r ∧ Box w' r #[.string (s.extract i s.size)] ∧ Below w.heap.size w w' := by
  obtain ⟨c0, c1, c2⟩ := h.three
  have KY := Lib.hid need_yes
  have h1 : (i : Int) ≤ s.size := by omega
  have h2 : (0 : Int) ≤ i := by omega
  have h3 : ¬ (s.size : Int) < i := by omega
  have hsl : ∀ W : World, (Instr.slice 9 (.string s) (some (.int .i64 (i : Int))) none none).run Try.prog W = .ok (.string (s.extract i s.size)) W := by
    intro W
    simp [go_sem, h1, h2, h3, Try.underlying9]
  go_enter Try.func35, Try.ntmps35
  go_wp2_with fail
  go_region_held3 (fun w' => w'.cell? ⟨g, 0, none⟩ = some (.string s) ∧ w'.cell? ⟨g, 1, none⟩ = some (.int .i64 (i : Int)) ∧ w'.cell? ⟨g, 2, none⟩ = some (.bool false))
    ((refine ⟨?_, ?_, ?_⟩ <;> (repeat (first | with_reducible exact c0 | with_reducible exact c1 | with_reducible exact c2 | with_reducible refine keep_drew ?_))))
    (first | (go_at_call 36; (with_reducible refine (KY.out _).mono ?_); rintro e z ⟨rfl, rfl⟩))
  all_goals go_wp2_with fail
  have d0 : w.drew.cell? ⟨g, 0, none⟩ = some (.string s) := c0
  have d1 : w.drew.cell? ⟨g, 1, none⟩ = some (.int .i64 (i : Int)) := c1
  have BX := Box.new w.drew.drew #[.string (s.extract i s.size)] 68
  have BL : Hid (Below w.heap.size w (w.drew.drew.alloc (.cells #[.string (s.extract i s.size)] 68))) := below_al (Below.refl _ _).drew.drew _
  have BH := Lib.hid BX
  clear BX c0 c1 c2
  go_region
  all_goals go_wp2_with fail
  go_ret
  exact ⟨w.heap.size, rfl, Nat.le_refl _, BH.out, BL.out⟩
end Go.Proofs.Ythbgbgobfoecoaa
namespace Go.Proofs.Ythbgbgobfoecoaa
open Go.RowKit
set_option linter.unusedVariables false
set_option linter.unusedSimpArgs false
set_option maxHeartbeats 1000000
set_option maxRecDepth 100000
/-- What is read in one world alone may be walked as if in many. -/
theorem still_of_quiet {P : Program} {ops : Array Oper} {W : World} {Q : Act → Prop} : ∀ {l : List Oper} {a : Act}, wpQuiet P ops (fun w' => w' = W) Q l a → wpStill P ops W Q l a := by
  intro l
  induction l with
  | nil => exact fun h => h
  | cons o rest ih =>
    intro a h
    unfold wpQuiet at h
    unfold wpStill
    split at h
    · rename_i hw
      rw [if_pos hw]
      obtain ⟨v, hv, hn⟩ := h
      have h3 := hv W rfl
      unfold Oper.quietAt at h3
      unfold Oper.still
      generalize (execOp a.eval o).run P W = r at *
      cases r with
      | ok n w' =>
        cases n <;> simp only [Oper.quietUpon] at h3 <;> simp only [Oper.stillUpon]
        case value u =>
          obtain ⟨e1, e2⟩ := h3
          exact ⟨e1, by rw [e2]; exact ih hn⟩
        case skip =>
          obtain ⟨e1, e2⟩ := h3
          exact ⟨e1, by rw [← e2]; exact ih hn⟩
        case enter f args =>
          obtain ⟨e1, e2⟩ := h3
          exact ⟨e1, v, e2, ih hn⟩
      | halt _ _ => simp only [Oper.quietUpon] at h3
    · rename_i hw
      rw [if_neg hw]
      exact ih h
theorem ahead_lost {s : ByteArray} {p : Int} {g : Nat} {w : World} (h : Box w g #[.string s, .int .i64 p, .bool true]) : Calls Try.prog 35 #[.pointer (some ⟨g, 0, none⟩)] w fun e w' =>
    e = .panicked lost8 ∧ Below w.heap.size w w' := by
  obtain ⟨c0, c1, c2⟩ := (show Box w.drew g #[.string s, .int .i64 p, .bool true] from h.drew).three
  have KN := Lib.hid need_no
  have BL := Lib.hid ((Below.refl w.heap.size w).drew)
  clear h
  go_enter Try.func35, Try.ntmps35
  go_wp2_with fail
  refine wp_region_still_tail 24 (by kernel_rfl) (by kernel_rfl) ?_
  simp only [List.take_succ_cons, List.take_zero, List.drop_succ_cons, List.drop_zero]
  change wpStill _ _ w.drew _ _ _
  refine still_of_quiet ?_
  repeat (go_big_quiet_step (fail))
  refine wpQuiet_nil ?_
  change wpList _ _ _ _ _ w.drew
  generalize w.drew = W at *
  go_wp2_with fail
  refine (KN.out _).mono ?_
  rintro e z ⟨rfl, rfl⟩
  go_wp2_with fail
  exact ⟨rfl, rfl, BL.out⟩
theorem ahead_low {s : ByteArray} {p : Int} {g : Nat} {w : World} (h : Box w g #[.string s, .int .i64 p, .bool false]) (h0 : p < 0) : Calls Try.prog 35 #[.pointer (some ⟨g, 0, none⟩)] w fun e w' =>
    e = .panicked lost8 ∧ Below w.heap.size w w' := by
  obtain ⟨c0, c1, c2⟩ := (show Box w.drew g #[.string s, .int .i64 p, .bool false] from h.drew).three
  have KN := Lib.hid need_no
  have BL := Lib.hid ((Below.refl w.heap.size w).drew)
  have n0 : decide ((0 : Int) ≤ p) = false := decide_eq_false (by omega)
  clear h0
  clear h
  go_enter Try.func35, Try.ntmps35
  go_wp2_with fail
  refine wp_region_still_tail 24 (by kernel_rfl) (by kernel_rfl) ?_
  simp only [List.take_succ_cons, List.take_zero, List.drop_succ_cons, List.drop_zero]
  change wpStill _ _ w.drew _ _ _
  refine still_of_quiet ?_
  repeat (go_big_quiet_step (fail))
  refine wpQuiet_nil ?_
  change wpList _ _ _ _ _ w.drew
  generalize w.drew = W at *
  go_wp2_with fail
  refine (KN.out _).mono ?_
  rintro e z ⟨rfl, rfl⟩
  go_wp2_with fail
  exact ⟨rfl, rfl, BL.out⟩
theorem ahead_far {s : ByteArray} {p : Int} {g : Nat} {w : World} (h : Box w g #[.string s, .int .i64 p, .bool false]) (h0 : 0 ≤ p) (h1 : (s.size : Int) < p) : Calls Try.prog 35 #[.pointer (some ⟨g, 0, none⟩)] w fun e w' =>
    e = .panicked lost8 ∧ Below w.heap.size w w' := by
  obtain ⟨c0, c1, c2⟩ := (show Box w.drew g #[.string s, .int .i64 p, .bool false] from h.drew).three
  have KN := Lib.hid need_no
  have BL := Lib.hid ((Below.refl w.heap.size w).drew)
  have n1 : decide (p ≤ (s.size : Int)) = false := decide_eq_false (by omega)
  clear h1
  clear h
  go_enter Try.func35, Try.ntmps35
  go_wp2_with fail
  refine wp_region_still_tail 24 (by kernel_rfl) (by kernel_rfl) ?_
  simp only [List.take_succ_cons, List.take_zero, List.drop_succ_cons, List.drop_zero]
  change wpStill _ _ w.drew _ _ _
  refine still_of_quiet ?_
  repeat (go_big_quiet_step (fail))
  refine wpQuiet_nil ?_
  change wpList _ _ _ _ _ w.drew
  generalize w.drew = W at *
  go_wp2_with fail
  refine (KN.out _).mono ?_
  rintro e z ⟨rfl, rfl⟩
  go_wp2_with fail
  exact ⟨rfl, rfl, BL.out⟩
theorem ahead_no {s : ByteArray} {p : Int} {lo : Bool} {g : Nat} {w : World} (h : Box w g #[.string s, .int .i64 p, .bool lo]) (ok : okR s.size p lo = false) : Calls Try.prog 35 #[.pointer (some ⟨g, 0, none⟩)] w fun e w' =>
    e = .panicked lost8 ∧ Below w.heap.size w w' := by
  have := okR_no ok
  cases lo
  · by_cases h0 : p < 0
    · exact ahead_low h h0
    · rcases this with x | x | x
      · cases x
      · exact absurd x h0
      · exact ahead_far h (by omega) x
  · exact ahead_lost h
end Go.Proofs.Ythbgbgobfoecoaa
namespace Go.Proofs.Ythbgbgobfoecoaa
open Go.RowKit
set_option linter.unusedVariables false
set_option linter.unusedSimpArgs false
set_option maxHeartbeats 1000000
set_option maxRecDepth 100000
/-- The reader after an answer: behind it, or lost. -/
abbrev rdc (s : ByteArray) (p : Int) : Option Nat → Array Value
  | some k => #[.string s, .int .i64 (p + k), .bool false]
  | none => #[.string s, .int .i64 p, .bool true]
theorem catchT_lost {q : Addr} {g : Nat} {s : ByteArray} {p : Int} {lo : Bool} {x : TypeId} {pv : Value} {older : List PanicEntry} {w : World} (hc : w.cell? q = some (.pointer (some ⟨g, 0, none⟩))) (h : Box w g #[.string s, .int .i64 p, .bool lo]) :
    CallsD Try.prog 34 #[.pointer (some q)] (.panicking ({ v := .iface x pv, recovered := false } :: older)) w fun e u' w' =>
      e = .returned (.tuple #[]) ∧ u' = .panicking ({ v := .iface x pv, recovered := true } :: older) ∧ w' = w.setCell ⟨g, 2, none⟩ (.bool true) := by
  obtain ⟨c0, c1, c2⟩ := h.three
  have m2 := h.melt 2
  refine callsD_of_wpS Try.func34 rfl fun c₀ cs hu => ?_
  apply wpS_seq
  apply wpS_region
  simp [wpOpsS, go_sem, recoverD, hu, Try.ntmps34, Exit.thenS]
  refine wpS_cond (t := true) (by simp [Act.eval, Array.replicate]) ?_
  simp only [if_true]
  apply wpS_region
  simp [wpOpsS, go_sem, hc, c2, m2, bodyPostS, results, Try.results34]
theorem catchT_idle (q : Addr) (w : World) :
    CallsD Try.prog 34 #[.pointer (some q)] .returning w fun e u' w' => e = .returned (.tuple #[]) ∧ u' = .returning ∧ w' = w := by
  refine callsD_of_wpS Try.func34 rfl fun c₀ cs hu => ?_
  apply wpS_seq
  apply wpS_region
  simp [wpOpsS, go_sem, recoverD, hu, Try.ntmps34, Exit.thenS]
  refine wpS_cond (t := false) (by simp [Act.eval, Array.replicate]) ?_
  simp only [Bool.false_eq_true, if_false]
  refine wpS_of_wp (wp_skip ?_)
  cases c₀
  simp_all [bodyPostS, results, Try.results34]
end Go.Proofs.Ythbgbgobfoecoaa
namespace Go.Proofs.Ythbgbgobfoecoaa
open Go.RowKit
set_option linter.unusedVariables false
set_option linter.unusedSimpArgs false
set_option maxHeartbeats 1000000
set_option maxRecDepth 100000
theorem Tk.other {w W W' : World} {g l : Nat} {cs ds : Array Value} (h : Tk g cs w W) (t : Tk l ds W W') (hl : w.heap.size ≤ l) (hn : l ≠ g) : Tk g cs w W' :=
  ⟨h.box.tk t hn.symm, t.os.trans h.os, t.tape.trans h.tape, t.output.trans h.output, Nat.le_trans h.size t.size, fun k hk hk2 => (t.block k (Nat.lt_of_lt_of_le hk h.size) (by omega)).trans (h.block k hk hk2)⟩
end Go.Proofs.Ythbgbgobfoecoaa
namespace Go.Proofs.Ythbgbgobfoecoaa
open Go.RowKit
set_option linter.unusedVariables false
set_option linter.unusedSimpArgs false
set_option maxHeartbeats 1000000
set_option maxRecDepth 100000
theorem textM_le {l : List UInt8} {most : Int} {n k : Nat} (h : textM l most = some (n, k)) : k + n ≤ l.length := by
  rw [textM_eq] at h
  split at h
  · rename_i c
    injection h with h
    rw [h] at c
    have := c.2.2.2
    dsimp only at this
    omega
  · cases h
theorem txt1_any {b : ByteArray} {g m : Nat} {w : World} (h : Box w g #[.string b]) (most : Int) (mb : -9223372036854775808 ≤ most ∧ most ≤ 9223372036854775807) (hm : w.cell? ⟨m, 0, none⟩ = some (.int .i64 most)) (hs : b.size ≤ 281474976710656) : Calls Try.prog 27 #[.pointer (some ⟨g, 0, none⟩), .pointer (some ⟨m, 0, none⟩)] w fun e w' =>
    RetP ((textM (L b) most).map fun x => (.string (b.extract x.2 (x.2 + x.1)), b.extract (x.2 + x.1) b.size)) g w e w' := by
  have K := Lib.hid (text_any h most mb hs)
  go_enter Try.func27, Try.ntmps27
  cases hn : textM (L b) most with
  | none =>
    rw [hn] at K
    clear hn
    go_wp2_with fail
    refine K.out.mono ?_
    rintro e z ⟨rfl, r, T⟩
    go_wp2_with fail
    exact ⟨rfl, rfl, r, T⟩
  | some x =>
    rw [hn] at K
    clear hn
    go_wp2_with fail
    refine K.out.mono ?_
    rintro e z ⟨rfl, T⟩
    go_wp2_with fail
    go_ret
    exact ⟨rfl, T⟩
theorem askedT_any {s : ByteArray} {p : Int} {lo : Bool} {g m : Nat} {w : World} (h : Box w g #[.string s, .int .i64 p, .bool lo]) (most : Int) (mb : -9223372036854775808 ≤ most ∧ most ≤ 9223372036854775807) (hm : w.cell? ⟨m, 0, none⟩ = some (.int .i64 most)) (hne : m ≠ g) (hs : s.size ≤ 281474976710656) :
    Calls Try.prog 26 #[.pointer (some ⟨g, 0, none⟩), .func (.func 27) #[] #[.pointer (some ⟨m, 0, none⟩)]] w fun e w' =>
      e = .returned (.string (textB (restB s p lo) (readT s p lo most))) ∧ Tk g (rdc s p ((readT s p lo most).map (fun x => x.2 + x.1))) w w' := by
  have hmf : ∀ (fn : Fn) (first cap : Array Value) (w : World), (Instr.makeFunc fn first cap).run Try.prog w = .ok (.func fn first cap) w := fun _ _ _ _ => rfl
  rw [readT_textM s p lo most]
  have hlt := h.lt
  have T : Tk g #[.string s, .int .i64 p, .bool lo] w (w.alloc (.cells #[.pointer (some ⟨g, 0, none⟩)] 47)) := (Tk.refl h).alloc _
  have Q := Box.new w #[.pointer (some ⟨g, 0, none⟩)] 47
  replace hm := keep_alloc hm (.cells #[.pointer (some ⟨g, 0, none⟩)] 47)
  obtain ⟨q, hq⟩ : ∃ q, w.heap.size = q := ⟨_, rfl⟩
  rw [hq] at Q
  have gq : Hid (q ≠ g) := by unfold Hid; omega
  have wq : Hid (w.heap.size ≤ q) := by unfold Hid; omega
  clear hlt h
  cases ok : okR s.size p lo with
  | false =>
    rw [if_neg (by decide), textB_none]
    have KA : Hid (∀ W, Box W g #[.string s, .int .i64 p, .bool lo] → _) := fun W hW => ahead_no (w := W) hW ok
    clear ok
    go_enter_defers Try.func26, Try.ntmps26
    go_wp2_with fail
    clear hq
    generalize w.alloc (.cells #[.pointer (some ⟨g, 0, none⟩)] 47) = W at *
    have c0 := Q.cell (i := 0) rfl
    go_wp2_with fail
    refine (KA.out _ T.box).mono ?_
    rintro e z ⟨rfl, B1⟩
    replace T := T.next B1
    replace Q := Q.next B1
    clear B1 c0
    go_wp2_with fail
    refine leaves_cons (f := 34) (args := #[.pointer (some ⟨q, 0, none⟩)]) (by simp) (by simp [go_sem]) ?_
    refine (catchT_lost (g := g) (s := s) (p := p) (lo := lo) (Q.cell (i := 0) rfl) T.box).mono ?_
    rintro e u' w'' ⟨rfl, rfl, rfl⟩
    have TT : Tk g #[.string s, .int .i64 p, .bool true] w _ := T.set 2 (.bool true)
    simp [Leaves, settle, results, Try.results26, go_sem]
    exact TT
  | true =>
    obtain ⟨rfl, i, rfl, hi⟩ := okR_yes ok
    rw [if_pos rfl, restB_yes hi]
    have KA : Hid (∀ W, Box W g #[.string s, .int .i64 (i : Int), .bool false] → _) := fun W hW => ahead_yes (w := W) hW hi hs
    obtain ⟨b, hb⟩ : ∃ b, b = s.extract i s.size := ⟨_, rfl⟩
    have bsz : b.size = s.size - i := by rw [hb, ByteArray.size_extract]; omega
    rw [← hb] at KA ⊢
    have KB : Hid (∀ W l, Box W l #[.string b] → W.cell? ⟨m, 0, none⟩ = some (.int .i64 most) → _) := fun W l hW hc => txt1_any (w := W) (g := l) hW most mb hc (by omega)
    clear ok hb
    cases hn : textM (L b) most with
    | none =>
      rw [hn] at KB
      rw [textB_none]
      clear hn bsz hi hs
      go_enter_defers Try.func26, Try.ntmps26
      go_wp2_with fail
      clear hq
      generalize w.alloc (.cells #[.pointer (some ⟨g, 0, none⟩)] 47) = W at *
      have c0 := Q.cell (i := 0) rfl
      go_wp2_with fail
      refine (KA.out _ T.box).mono ?_
      rintro e z ⟨l, rfl, hl, BX, B1⟩
      have lg : Hid (l ≠ g) := by have := T.box.lt; unfold Hid; omega
      have lw : Hid (w.heap.size ≤ l) := by have := T.size; unfold Hid; omega
      have lq : Hid (l ≠ q) := by have := Q.lt; unfold Hid; omega
      replace T := T.next B1
      replace Q := Q.next B1
      replace hm := keep_cell B1 hm
      clear B1 c0 hl
      go_wp2_with fail
      refine (KB.out _ _ BX hm).mono ?_
      rintro e z2 ⟨rfl, r9, T2⟩
      have TG : Box z2 g _ := T.box.tk T2 lg.out.symm
      have T9 : Tk g #[.string s, .int .i64 (i : Int), .bool false] w z2 := T.other T2 lw.out lg.out
      replace Q := Q.tk T2 lq.out.symm
      clear T2 BX hm
      go_wp2_with fail
      refine leaves_cons (f := 34) (args := #[.pointer (some ⟨q, 0, none⟩)]) (by simp) (by simp [go_sem]) ?_
      refine (catchT_lost (g := g) (s := s) (p := (i : Int)) (lo := false) (Q.cell (i := 0) rfl) T9.box).mono ?_
      rintro e u' w'' ⟨rfl, rfl, rfl⟩
      have TT : Tk g #[.string s, .int .i64 (i : Int), .bool true] w _ := T9.set 2 (.bool true)
      simp [Leaves, settle, results, Try.results26, go_sem]
      exact TT
    | some x =>
      obtain ⟨n, k⟩ := x
      have kl := textM_le hn
      rw [L_len] at kl
      rw [hn, Option.map_some] at KB
      rw [textB_some, Option.map_some]
      dsimp only at KB ⊢
      obtain ⟨kk, hkk⟩ : ∃ x, x = k + n := ⟨_, rfl⟩
      rw [← hkk] at KB kl ⊢
      generalize b.extract k kk = t at *
      clear hkk
      obtain ⟨b2, hb2⟩ : ∃ x, x = b.extract kk b.size := ⟨_, rfl⟩
      have b2s : b2.size = b.size - kk := by rw [hb2, ByteArray.size_extract]; omega
      rw [← hb2] at KB
      obtain ⟨j, hj⟩ : ∃ j : Int, j = (i : Int) + (kk : Int) := ⟨_, rfl⟩
      have ew : IntKind.i64.wrap ((s.size : Int) - b2.size) = j := by rw [IntKind.wrap_i64]; omega
      have HJ := Lib.hid hj
      clear hn bsz hi hs hb2 b2s kl hj
      go_enter_defers Try.func26, Try.ntmps26
      go_wp2_with fail
      clear hq
      generalize w.alloc (.cells #[.pointer (some ⟨g, 0, none⟩)] 47) = W at *
      have c0 := Q.cell (i := 0) rfl
      go_wp2_with fail
      refine (KA.out _ T.box).mono ?_
      rintro e z ⟨l, rfl, hl, BX, B1⟩
      have lg : Hid (l ≠ g) := by have := T.box.lt; unfold Hid; omega
      have lw : Hid (w.heap.size ≤ l) := by have := T.size; unfold Hid; omega
      have lq : Hid (l ≠ q) := by have := Q.lt; unfold Hid; omega
      replace T := T.next B1
      replace Q := Q.next B1
      replace hm := keep_cell B1 hm
      clear B1 c0 hl
      go_wp2_with fail
      refine (KB.out _ _ BX hm).mono ?_
      rintro e z2 ⟨rfl, T2⟩
      have T9 : Tk g #[.string s, .int .i64 (i : Int), .bool false] w z2.drew := (T.other T2 lw.out lg.out).drew
      replace Q := (Q.tk T2 lq.out.symm).drew
      have BL := T2.box.drew
      clear T2 BX hm T
      go_wp2_with fail
      refine wp_region_still_tail 14 (by kernel_rfl) (by kernel_rfl) ?_
      simp only [List.take_succ_cons, List.take_zero, List.drop_succ_cons, List.drop_zero]
      change wpStill _ _ z2.drew _ _ _
      have c0 := Q.cell (i := 0) rfl
      obtain ⟨c1, c2, c3⟩ := T9.box.three
      have c4 := BL.cell (i := 0) rfl
      have m1 := T9.box.melt 1
      refine still_of_quiet ?_
      repeat (go_big_quiet_step (fail))
      refine wpQuiet_nil ?_
      change wpList _ _ _ _ _ z2.drew
      generalize z2.drew = Z at *
      go_wp2_with fail
      refine leaves_cons (f := 34) (args := #[.pointer (some ⟨q, 0, none⟩)]) (by simp) (by simp [go_sem]) ?_
      refine (catchT_idle ⟨q, 0, none⟩ _).mono ?_
      rintro e u' w'' ⟨rfl, rfl, rfl⟩
      have TT : Tk g #[.string s, .int .i64 j, .bool false] w _ := T9.set 1 (.int .i64 j)
      simp [Leaves, settle, results, Try.results26, go_sem]
      rw [HJ.out] at TT ⊢
      exact TT
theorem rText_any {s : ByteArray} {p : Int} {lo : Bool} {g : Nat} {w : World} (h : Box w g #[.string s, .int .i64 p, .bool lo]) (most : Int) (mb : -9223372036854775808 ≤ most ∧ most ≤ 9223372036854775807) (hs : s.size ≤ 281474976710656) :
    Calls Try.prog 20 #[.pointer (some ⟨g, 0, none⟩), .int .i64 most] w fun e w' =>
      e = .returned (.string (textB (restB s p lo) (readT s p lo most))) ∧ Tk g (rdc s p ((readT s p lo most).map (fun x => x.2 + x.1))) w w' := by
  have hmf : ∀ (fn : Fn) (first cap : Array Value) (w : World), (Instr.makeFunc fn first cap).run Try.prog w = .ok (.func fn first cap) w := fun _ _ _ _ => rfl
  have hlt := h.lt
  have B0 : Below w.heap.size w (w.alloc (.cells #[.int .i64 most] 3)) := below_al (Below.refl _ _) _
  have Q := Box.new w #[.int .i64 most] 3
  obtain ⟨m, hq⟩ : ∃ q, w.heap.size = q := ⟨_, rfl⟩
  rw [hq] at Q
  have K := Lib.hid (askedT_any (h.next B0) most mb (Q.cell (i := 0) rfl) (show m ≠ g by omega) hs)
  have HB := Lib.hid B0
  clear hlt h Q B0
  go_enter Try.func20, Try.ntmps20
  go_wp2_with fail
  clear hq
  generalize w.alloc (.cells #[.int .i64 most] 3) = W at *
  refine K.out.mono ?_
  rintro e z ⟨rfl, T⟩
  go_wp2_with fail
  go_ret
  exact ⟨rfl, T.pre HB.out⟩
end Go.Proofs.Ythbgbgobfoecoaa
