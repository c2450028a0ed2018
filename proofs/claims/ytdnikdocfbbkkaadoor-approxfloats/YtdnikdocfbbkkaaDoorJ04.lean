/- The walks of word, gcdWords, Gcd. Plain arithmetic: decimal digits and texts. The walks of withDigits, trimRightByte, TrimRight. The walks of Reverse, Text. -/
import Derived.Test.YtdnikdocfbbkkaaDoorJ03
import Derived.Maps.AppendAt
import Derived.Laws.IdiomStrings
namespace Go.Proofs.YtdnikdocfbbkkaaDoor
open Go.RowKit
set_option linter.unusedVariables false
set_option linter.unusedSimpArgs false

theorem or_words (x y : Nat) (hx : x < 4294967296) (hy : y < 4294967296) : bits BinOp.or IntKind.u64 (x : Int) ((y : Int) * 4294967296) = ((x + 4294967296 * y : Nat) : Int) := by
  have e : (y : Int) * 4294967296 = ((y * 4294967296 : Nat) : Int) := by omega
  rw [e, u64_or_nat _ _ (by omega) (by omega), Nat.or_comm]
  have := or_apart y x 32 (by omega)
  rw [show (2 : Nat) ^ 32 = 4294967296 by decide] at this
  omega
theorem or_zero_left (x : Nat) (hx : x < 4294967296) : bits BinOp.or IntKind.u64 0 (x : Int) = (x : Int) := by
  have := u64_or_nat 0 x (by omega) (by omega)
  rw [Nat.zero_or] at this
  exact this
set_option maxHeartbeats 1000000 in
set_option maxRecDepth 100000 in
theorem word_any {A : Option Addr} {n c : Nat} {xs : List Nat} {w : World} (h : Lim w A n c xs) (hn : n ≤ 2) : Calls Tryd.prog 111 #[.slice A n c] w fun e w' => e = .returned (.int .u64 (val xs)) ∧ w = w' := by
  have hl := h.len
  rcases (by omega : n = 0 ∨ n = 1 ∨ n = 2) with rfl | rfl | rfl
  · have e := List.eq_nil_of_length_eq_zero hl
    subst e
    clear h hl hn
    go_enter Tryd.func111, Tryd.ntmps111
    go_wp2_with fail
    go_rounds 1
    go_ret
    exact ⟨rfl, rfl⟩
  · obtain ⟨ad, rfl⟩ := h.some_ (by omega)
    match xs, hl with
    | [x], _ =>
      have c0 := h.cell 0 (by simp)
      have hx := h.lo.head
      simp only [List.getElem_cons_zero] at c0
      have a0 : ad.add 0 = ad := by unfold Addr.add; rfl
      rw [a0] at c0
      have E1 := Lib.hid (or_zero_left x hx)
      have E2 : Hid (val [x] = x) := by unfold Hid; rw [val_cons, val_nil, Nat.mul_zero, Nat.add_zero]
      clear h hl hn a0
      go_enter Tryd.func111, Tryd.ntmps111
      go_wp2_with fail
      go_rounds 2
      rw [E1.out]
      go_ret
      exact ⟨by rw [E2.out]; rfl, rfl⟩
  · obtain ⟨ad, rfl⟩ := h.some_ (by omega)
    match xs, hl with
    | [x, y], _ =>
      have c0 := h.cell 0 (by simp)
      have c1 := h.cell 1 (by simp)
      have hx := h.lo.head
      have hy := h.lo.tail.head
      simp only [List.getElem_cons_zero, List.getElem_cons_succ] at c0 c1
      have a0 : ad.add 0 = ad := by unfold Addr.add; rfl
      rw [a0] at c0
      have E1 := Lib.hid (or_zero_left x hx)
      have E3 := Lib.hid (or_words x y hx hy)
      have E2 : Hid (val [x, y] = x + 4294967296 * y) := by unfold Hid; rw [val_cons, val_cons, val_nil, Nat.mul_zero, Nat.add_zero, B_eq]
      have c2 : w.cell? ⟨ad.block, ad.off + 1, none⟩ = some (lv y) := c1
      clear h hl hn a0 c1
      go_enter Tryd.func111, Tryd.ntmps111
      go_wp2_with fail
      go_rounds 3
      rw [E1.out, E3.out]
      go_ret
      exact ⟨by rw [E2.out]; rfl, rfl⟩

set_option maxHeartbeats 1000000 in
set_option maxRecDepth 100000 in
theorem gcdWords_any (a b : Nat) (ha : a < 18446744073709551616) (hb : b < 18446744073709551616) (w : World) : Calls Tryd.prog 110 #[.int .u64 a, .int .u64 b] w fun e w' => e = .returned (.int .u64 (Nat.gcd a b)) ∧ ∃ m, w' = w.drewN m := by
  go_enter Tryd.func110, Tryd.ntmps110
  go_wp2_with fail
  go_loopg [0, 1] b (fun y s0 s1 wr => ∃ (x m : Nat), x < 18446744073709551616 ∧ y < 18446744073709551616 ∧ s0 = .int .u64 (x : Int) ∧ s1 = .int .u64 (y : Int) ∧ Hid (Nat.gcd x y = Nat.gcd a b) ∧ wr = w.drewN m)
  case atStart => exact ⟨a, 0, ha, hb, rfl, rfl, rfl, rfl⟩
  case round =>
    obtain ⟨x, m, hx, hy, rfl, rfl, hg, rfl⟩ := hrel
    by_cases hz : gk = 0
    · subst hz
      have E : Hid (Nat.gcd a b = x) := by unfold Hid; rw [← hg.out, Nat.gcd_zero_right]
      clear hg
      go_wp2_with fail
      go_ret
      exact ⟨by rw [E.out]; rfl, _, rfl⟩
    · have h1 : ((gk : Int) != 0) = true := by simp; omega
      have h2 : ((gk : Int) == 0) = false := by simpa using hz
      have lt : x % gk < gk := Nat.mod_lt _ (by omega)
      have G : Hid (Nat.gcd gk (x % gk) = Nat.gcd a b) := by
        unfold Hid
        rw [← hg.out, Nat.gcd_comm gk, ← Nat.gcd_rec gk x, Nat.gcd_comm]
      have E : Hid ((x : Int) % (gk : Int) = ((x % gk : Nat) : Int)) := (Int.natCast_emod x gk).symm
      generalize x % gk = r at *
      clear hg
      go_wp2_with fail
      go_quiet (fail)
      go_wp2_with fail
      go_roundg r
      case measure => exact lt
      case rel =>
        go_light
        rw [E.out]
        exact ⟨gk, m + nq, hy, by omega, rfl, rfl, G, World.drewN_drewN _ _ _⟩

/-- Two naturals that lie there. -/
structure Both (w : World) (x y : Nat) (s0 s1 : Value) (wr : World) : Prop where
  ex : ∃ A n c A' n' c', s0 = .slice A n c ∧ s1 = .slice A' n' c' ∧ Lim wr A n c (limbs x) ∧ Lim wr A' n' c' (limbs y)
  lx : ln x ≤ 64
  ly : ln y ≤ 64
  bl : Below w.heap.size w wr
theorem lt_word {n : Nat} (h : ln n ≤ 2) : n < 18446744073709551616 := by
  have := Nat.lt_of_lt_of_le (lt_ln n) (Nat.pow_le_pow_right B_pos h)
  rwa [B_eq, show (4294967296 : Nat) ^ 2 = 18446744073709551616 by decide] at this
theorem ln_word {n : Nat} (h : n < 18446744073709551616) : ln n ≤ 2 := ln_le (by rw [B_eq, show (4294967296 : Nat) ^ 2 = 18446744073709551616 by decide]; exact h)
set_option maxHeartbeats 2000000 in
set_option maxRecDepth 100000 in
theorem gcd_any {A A' : Option Addr} {n c n' c' a b : Nat} {w : World} (ha : Lim w A n c (limbs a)) (hb : Lim w A' n' c' (limbs b)) (la : ln a ≤ 64) (lb : ln b ≤ 64) :
    Calls Tryd.prog 64 #[.slice A n c, .slice A' n' c'] w fun e w' => RetE (Nat.gcd a b) 0 w e w' := by
  have RA := Lib.hid (right_yes ha la); have RB := Lib.hid (right_yes hb lb)
  have S0 : Both w a b (.slice A n c) (.slice A' n' c') w := ⟨⟨_, _, _, _, _, _, rfl, rfl, ha, hb⟩, la, lb, Below.refl _ _⟩
  clear ha hb la lb
  go_enter Tryd.func64, Tryd.ntmps64
  go_wp2_with fail
  refine RA.out.mono ?_
  rintro e w' ⟨rfl, rfl⟩
  go_wp2_with fail
  refine RB.out.mono ?_
  rintro e w' ⟨rfl, rfl⟩
  go_wp2_with fail
  go_loopg [0, 1] b (fun y s0 s1 wr => ∃ x, Hid (Nat.gcd x y = Nat.gcd a b) ∧ Both w x y s0 s1 wr)
  case atStart => exact ⟨a, rfl, S0⟩
  case round =>
    clear S0 RA RB
    obtain ⟨x, hg, S⟩ := hrel
    obtain ⟨A, n, c, A', n', c', rfl, rfl, L0, L1⟩ := S.ex
    have lx := S.lx; have ly := S.ly; have BL := S.bl
    have hl := L0.len; have hl' := L1.len
    rw [limbs_length] at hl hl'
    have n1 : n ≤ 64 := by omega
    have n2 : n' ≤ 64 := by omega
    by_cases h2 : 2 < n'
    · have i2 : (2 : Int) < n' := by omega
      have y0 : gk ≠ 0 := by intro e; subst e; rw [ln_zero] at hl'; omega
      have lt : x % gk < gk := Nat.mod_lt _ (Nat.pos_of_ne_zero y0)
      have G : Hid (Nat.gcd gk (x % gk) = Nat.gcd a b) := by
        unfold Hid
        rw [← hg.out, Nat.gcd_comm gk, ← Nat.gcd_rec gk x, Nat.gcd_comm]
      have KD := Lib.hid (divide_any L0 L1 lx y0)
      have lr : ln (x % gk) ≤ 64 := Nat.le_trans (ln_mono (Nat.le_of_lt lt)) ly
      have L1h := Lib.hid L1
      generalize x % gk = r at *
      clear L0 L1 hg S hl hl'
      go_wp2_with fail
      refine KD.out.mono ?_
      rintro e w1 ⟨A2, n3, c2, A3, n4, c3, rfl, L2, L3, B1⟩
      have L3h := Lib.hid L3
      clear L2 L3
      go_wp2_with fail
      go_roundg r
      case measure => exact lt
      case rel =>
        go_light
        exact ⟨gk, G, ⟨_, _, _, _, _, _, rfl, rfl, L1h.out.next B1, L3h.out⟩, ly, lr, below_step BL B1⟩
    · have i2 : ¬ (2 : Int) < n' := by omega
      by_cases hz : n' = 0
      · subst hz
        have y0 := ln_eq_zero hl'
        subst y0
        have E : Hid (Nat.gcd a b = x) := by unfold Hid; rw [← hg.out, Nat.gcd_zero_right]
        have KC := Lib.hid (clone_any L0 (by omega))
        clear L0 L1 hg S hl hl'
        go_wp2_with fail
        refine KC.out.mono ?_
        rintro e w1 ⟨A2, n2, c2, rfl, L2, B1⟩
        have KT := Lib.hid (trim_any L2)
        rw [val_limbs] at KT
        clear L2
        go_wp2_with fail
        refine KT.out.mono ?_
        rintro e w2 ⟨A3, n3, c3, rfl, L3, rfl⟩
        go_wp2_with fail
        go_ret2
        exact ⟨_, _, _, rfl, by rw [E.out]; exact L3, below_step BL B1⟩
      · have h0 : ((n' : Int) == 0) = false := by simpa using hz
        have y0 : gk ≠ 0 := by intro e; subst e; rw [ln_zero] at hl'; omega
        have lt : x % gk < gk := Nat.mod_lt _ (Nat.pos_of_ne_zero y0)
        have G : Hid (Nat.gcd gk (x % gk) = Nat.gcd a b) := by
          unfold Hid
          rw [← hg.out, Nat.gcd_comm gk, ← Nat.gcd_rec gk x, Nat.gcd_comm]
        have KD := Lib.hid (divide_any L0 L1 lx y0)
        have lr : ln (x % gk) ≤ 2 := Nat.le_trans (ln_mono (Nat.le_of_lt lt)) (by omega)
        have wy := lt_word (show ln gk ≤ 2 by omega)
        have wr2 := lt_word lr
        have L1h := Lib.hid L1
        have gl : Nat.gcd a b < 18446744073709551616 := by
          rw [← G.out]
          exact Nat.lt_of_le_of_lt (Nat.gcd_le_left _ (Nat.pos_of_ne_zero y0)) wy
        generalize x % gk = r at *
        clear L0 L1 hg S hl hl'
        go_wp2_with fail
        refine KD.out.mono ?_
        rintro e w1 ⟨A2, n3, c2, A3, n4, c3, rfl, L2, L3, B1⟩
        have K1 := Lib.hid (word_any (L1h.out.next B1) (by omega))
        have hl4 := L3.len
        rw [limbs_length] at hl4
        have K2 := Lib.hid (word_any L3 (by omega))
        rw [val_limbs] at K1 K2
        clear L2 L3 hl4
        go_wp2_with fail
        refine K1.out.mono ?_
        rintro e w2 ⟨rfl, rfl⟩
        go_wp2_with fail
        refine K2.out.mono ?_
        rintro e w2 ⟨rfl, rfl⟩
        go_wp2_with fail
        refine (gcdWords_any gk r wy wr2 _).mono ?_
        rintro e w2 ⟨rfl, m, rfl⟩
        rw [G.out]
        go_wp2_with fail
        refine (of_any (Nat.gcd a b) gl _).mono ?_
        rintro e w3 ⟨A5, n5, c5, rfl, L5, B5⟩
        go_wp2_with fail
        go_ret2
        exact ⟨_, _, _, rfl, L5, below_step (below_drewN (below_step BL B1) m) B5⟩
set_option maxRecDepth 100000 in
theorem gcd_none {A A' : Option Addr} {n c n' c' : Nat} {xs ys : List Nat} {w : World} (ha : Lim w A n c xs) (hb : Lim w A' n' c' ys) (h : NoTwo xs ys) :
    Calls Tryd.prog 64 #[.slice A n c, .slice A' n' c'] w fun e w' => e = .returned (.tuple #[.slice none 0 0, .int .i64 1]) ∧ w = w' := by
  rcases rights_no ha hb h with ⟨_, RA, RB⟩ | RA
  · have RA := Lib.hid RA; have RB := Lib.hid RB
    clear ha hb h
    go_enter Tryd.func64, Tryd.ntmps64
    go_wp2_with fail
    refine (RA.out _ rfl).mono ?_
    rintro e w' ⟨rfl, rfl⟩
    go_wp2_with fail
    refine (RB.out _ rfl).mono ?_
    rintro e w' ⟨rfl, rfl⟩
    go_wp2_with fail
    go_ret2
    exact ⟨rfl, rfl⟩
  · have RA := Lib.hid RA
    clear ha hb h
    go_enter Tryd.func64, Tryd.ntmps64
    go_wp2_with fail
    refine (RA.out _ rfl).mono ?_
    rintro e w' ⟨rfl, rfl⟩
    go_wp2_with fail
    go_ret2
    exact ⟨rfl, rfl⟩
end Go.Proofs.YtdnikdocfbbkkaaDoor
namespace Go.Proofs.YtdnikdocfbbkkaaDoor

/-- The number of decimal digits, the lowest first. -/
def dv : List Nat → Nat
  | [] => 0
  | x :: r => x + 10 * dv r
/-- Digits. -/
def Dg (xs : List Nat) : Prop := ∀ x ∈ xs, x < 10
theorem Dg.nil : Dg [] := fun x hx => by cases hx
theorem Dg.cons {x : Nat} {r : List Nat} (h : x < 10) (k : Dg r) : Dg (x :: r) := fun y hy => by
  rcases List.mem_cons.1 hy with rfl | hy
  · exact h
  · exact k y hy
theorem Dg.head {x : Nat} {r : List Nat} (h : Dg (x :: r)) : x < 10 := h x (by simp)
theorem Dg.tail {x : Nat} {r : List Nat} (h : Dg (x :: r)) : Dg r := fun y hy => h y (by simp [hy])
theorem Dg.append {xs ys : List Nat} (h : Dg xs) (k : Dg ys) : Dg (xs ++ ys) := fun y hy => by
  rcases List.mem_append.1 hy with hy | hy
  · exact h y hy
  · exact k y hy
theorem Dg.take {xs : List Nat} (h : Dg xs) (k : Nat) : Dg (xs.take k) := fun y hy => h y (List.mem_of_mem_take hy)
theorem dv_append (xs ys : List Nat) : dv (xs ++ ys) = dv xs + 10 ^ xs.length * dv ys := by
  induction xs with
  | nil => simp [dv]
  | cons x r ih => rw [List.cons_append, dv, dv, ih, List.length_cons, Nat.pow_succ, Nat.mul_add, Nat.add_assoc, Nat.mul_comm (10 ^ r.length) 10, Nat.mul_assoc]
theorem dv_snoc_zero (xs : List Nat) : dv (xs ++ [0]) = dv xs := by rw [dv_append]; simp [dv]
/-- The digits of a number, the lowest first. -/
def tens (n : Nat) : List Nat := if h : n = 0 then [] else n % 10 :: tens (n / 10)
termination_by n
decreasing_by exact Nat.div_lt_self (Nat.pos_of_ne_zero h) (by decide)
theorem tens_zero : tens 0 = [] := by rw [tens]; rfl
theorem tens_pos {n : Nat} (h : n ≠ 0) : tens n = n % 10 :: tens (n / 10) := by rw [tens, dif_neg h]
theorem tens_step (n : Nat) : tens n = if n = 0 then [] else n % 10 :: tens (n / 10) := by
  by_cases h : n = 0
  · rw [if_pos h, h, tens_zero]
  · rw [if_neg h, tens_pos h]
theorem dg_tens (n : Nat) : Dg (tens n) := by
  induction n using Nat.strongRecOn with
  | _ n ih =>
    by_cases h : n = 0
    · rw [h, tens_zero]; exact .nil
    · rw [tens_pos h]
      exact .cons (Nat.mod_lt _ (by decide)) (ih _ (Nat.div_lt_self (Nat.pos_of_ne_zero h) (by decide)))
theorem dv_tens (n : Nat) : dv (tens n) = n := by
  induction n using Nat.strongRecOn with
  | _ n ih =>
    by_cases h : n = 0
    · rw [h, tens_zero]; rfl
    · rw [tens_pos h, dv, ih _ (Nat.div_lt_self (Nat.pos_of_ne_zero h) (by decide))]
      omega
theorem tens_dv {xs : List Nat} (h : Dg xs) (k : ∀ hn : xs ≠ [], xs.getLast hn ≠ 0) : tens (dv xs) = xs := by
  induction xs with
  | nil => rw [dv, tens_zero]
  | cons x r ih =>
    by_cases hr : r = []
    · subst hr
      have := k (by simp)
      simp at this
      have hx := h.head
      rw [dv, dv, Nat.mul_zero, Nat.add_zero, tens_pos this, Nat.mod_eq_of_lt hx, Nat.div_eq_of_lt hx, tens_zero]
    · have k' : ∀ hn : r ≠ [], r.getLast hn ≠ 0 := fun hn => by
        have := k (by simp)
        rwa [List.getLast_cons hn] at this
      have i := ih h.tail k'
      have nz : dv r ≠ 0 := by
        intro e
        rw [e, tens_zero] at i
        exact hr i.symm
      have hx := h.head
      rw [dv, tens_pos (by omega), show (x + 10 * dv r) % 10 = x by omega, show (x + 10 * dv r) / 10 = dv r by omega, i]
theorem tens_last (n : Nat) (hn : tens n ≠ []) : (tens n).getLast hn ≠ 0 := by
  induction n using Nat.strongRecOn with
  | _ n ih =>
    by_cases h : n = 0
    · subst h; exact absurd tens_zero hn
    · have e := tens_pos h
      have : (tens n).getLast hn = (n % 10 :: tens (n / 10)).getLast (by simp) := by simp only [e]
      rw [this]
      by_cases h2 : n / 10 = 0
      · have e3 : tens (n / 10) = [] := by rw [h2, tens_zero]
        simp only [e3, List.getLast_singleton]
        omega
      · have hne : tens (n / 10) ≠ [] := by rw [tens_pos h2]; simp
        rw [List.getLast_cons hne]
        exact ih _ (Nat.div_lt_self (Nat.pos_of_ne_zero h) (by decide)) hne
/-- So many digits of a number, noughts among them. -/
def pads : Nat → Nat → List Nat
  | 0, _ => []
  | k + 1, n => n % 10 :: pads k (n / 10)
theorem pads_length (k n : Nat) : (pads k n).length = k := by
  induction k generalizing n with
  | zero => rfl
  | succ k ih => rw [pads, List.length_cons, ih]
theorem dg_pads (k n : Nat) : Dg (pads k n) := by
  induction k generalizing n with
  | zero => exact .nil
  | succ k ih => exact .cons (Nat.mod_lt _ (by decide)) (ih _)
theorem dv_pads (k n : Nat) (h : n < 10 ^ k) : dv (pads k n) = n := by
  induction k generalizing n with
  | zero => have : n = 0 := by simpa using h
            rw [this]; rfl
  | succ k ih =>
    rw [pads, dv, ih (n / 10) ((Nat.div_lt_iff_lt_mul (by decide)).2 (by rw [Nat.pow_succ] at h; exact h))]
    omega
theorem pads_snoc (k n : Nat) : pads (k + 1) n = pads k n ++ [n / 10 ^ k % 10] := by
  induction k generalizing n with
  | zero => simp [pads]
  | succ k ih =>
    rw [pads, ih (n / 10), pads, List.cons_append, Nat.div_div_eq_div_mul, Nat.pow_succ, Nat.mul_comm 10]
/-- A digit as a byte. -/
def dig (d : Nat) : UInt8 := UInt8.ofNat (48 + d)
theorem dig_toNat {d : Nat} (h : d < 10) : (dig d).toNat = 48 + d := by
  unfold dig
  rw [UInt8.toNat_ofNat_of_lt' (by show 48 + d < 256; omega)]
theorem dig_zero : dig 0 = 48 := rfl
theorem dig_ne {d : Nat} (h : d < 10) (hz : d ≠ 0) : dig d ≠ 48 := by
  intro e
  have := dig_toNat h
  rw [e] at this
  have : (48 : UInt8).toNat = 48 := rfl
  omega
/-- The text of a number. -/
@[irreducible] def dtext (n : Nat) : List UInt8 := if n = 0 then [48] else ((tens n).map dig).reverse
theorem dtext_zero : dtext 0 = [48] := by unfold dtext; rw [if_pos rfl]
theorem dtext_pos {n : Nat} (h : n ≠ 0) : dtext n = ((tens n).map dig).reverse := by unfold dtext; rw [if_neg h]

/-- The number of a text. -/
def rd (l : List UInt8) : Nat := l.foldl (fun n c => n * 10 + (c.toNat - 48)) 0
theorem rd_snoc (l : List UInt8) (c : UInt8) : rd (l ++ [c]) = rd l * 10 + (c.toNat - 48) := by unfold rd; rw [List.foldl_append]; rfl
theorem rd_digits (ds : List Nat) (h : Dg ds) : rd ((ds.map dig).reverse) = dv ds := by
  induction ds with
  | nil => rfl
  | cons x r ih =>
    rw [List.map_cons, List.reverse_cons, rd_snoc, ih h.tail, dig_toNat h.head, dv]
    omega
theorem rd_dtext (n : Nat) : rd (dtext n) = n := by
  by_cases h : n = 0
  · rw [h, dtext_zero]; rfl
  · rw [dtext_pos h, rd_digits _ (dg_tens n), dv_tens]
/-- A decimal digit. -/
def isD (c : UInt8) : Prop := 48 ≤ c.toNat ∧ c.toNat ≤ 57
/-- Is it a natural's text? -/
def isT (l : List UInt8) : Prop := l ≠ [] ∧ ¬ (l.head? = some 48 ∧ 1 < l.length) ∧ ∀ c ∈ l, isD c
theorem isD_dig {d : Nat} (h : d < 10) : isD (dig d) := by unfold isD; rw [dig_toNat h]; omega
theorem isT_dtext (n : Nat) : isT (dtext n) := by
  by_cases h : n = 0
  · rw [h, dtext_zero]
    refine ⟨by simp, by simp, ?_⟩
    intro c hc
    have : c = 48 := by simpa using hc
    rw [this]
    exact ⟨by decide, by decide⟩
  · have hne : tens n ≠ [] := by rw [tens_pos h]; simp
    rw [dtext_pos h]
    refine ⟨by simp [hne], ?_, ?_⟩
    · rintro ⟨hh, _⟩
      have l := tens_last n hne
      rw [List.head?_reverse, List.getLast?_map, List.getLast?_eq_some_getLast hne] at hh
      simp only [Option.map_some, Option.some.injEq] at hh
      exact dig_ne (dg_tens n _ (List.getLast_mem hne)) l hh
    · intro c hc
      rw [List.mem_reverse, List.mem_map] at hc
      obtain ⟨d, hd, rfl⟩ := hc
      exact isD_dig (dg_tens n d hd)
theorem rd_append (l m : List UInt8) : rd (l ++ m) = rd l * 10 ^ m.length + rd m := by
  induction m generalizing l with
  | nil => simp [rd]
  | cons c r ih =>
    have e : l ++ c :: r = (l ++ [c]) ++ r := by simp
    have e2 : c :: r = [c] ++ r := rfl
    rw [e, ih, rd_snoc, e2, ih [c], List.length_append, List.length_singleton]
    have : rd [c] = c.toNat - 48 := by simp [rd]
    rw [this, Nat.add_mul, Nat.pow_add, Nat.pow_one, ← Nat.mul_assoc, Nat.add_assoc]
theorem rd_lt (l : List UInt8) (h : ∀ c ∈ l, isD c) : rd l < 10 ^ l.length := by
  induction l with
  | nil => simp [rd]
  | cons c r ih =>
    have e2 : c :: r = [c] ++ r := rfl
    have i := ih (fun x hx => h x (by simp [hx]))
    have hc := (h c (by simp)).2
    have : rd [c] = c.toNat - 48 := by simp [rd]
    rw [e2, rd_append, this, List.length_append, List.length_singleton, Nat.pow_add, Nat.pow_one]
    have : (c.toNat - 48) * 10 ^ r.length ≤ 9 * 10 ^ r.length := Nat.mul_le_mul_right _ (by omega)
    omega
theorem rd_mono (l m : List UInt8) : rd l ≤ rd (l ++ m) := by
  rw [rd_append]
  have : rd l * 1 ≤ rd l * 10 ^ m.length := Nat.mul_le_mul_left _ (Nat.pow_pos (by decide))
  omega
end Go.Proofs.YtdnikdocfbbkkaaDoor
namespace Go.Proofs.YtdnikdocfbbkkaaDoor
open Go.RowKit
set_option linter.unusedVariables false
set_option linter.unusedSimpArgs false

/-- A byte. -/
abbrev bv (b : UInt8) : Value := .int .u8 (b.toNat : Int)
theorem info_u8 : (Tryd.prog.info? 5).map (fun i => (i.zero, i.size, i.bytes)) = some (some (.int .u8 0), 1, 1) := by kernel_rfl
/-- What is in the loop of withDigits. -/
structure Wdg (w : World) (base : Nat) (v : Value) (n : Nat) (bs : List UInt8) (x k : Nat) (v' : Value) (wr : World) : Prop where
  own : wr.ownsRow base 5 1 v' (n + k) ((bs ++ (pads k x).map dig).map bv)
  gr : w.grownBy wr v.ownBlock
  lies : v'.ownBlock = v.ownBlock ∨ ∃ b, v'.ownBlock = some b ∧ w.heap.size ≤ b
theorem Wdg.step {w : World} {base : Nat} {v : Value} {n : Nat} {bs : List UInt8} {x k : Nat} {v1 v2 : Value} {wr w2 : World} {o : Obj} (h : Wdg w base v n bs x k v1 wr)
    (hown : w2.ownsRow base 5 1 v2 (n + k + 1) ((bs ++ (pads k x).map dig).map bv ++ [bv (dig (x / 10 ^ k % 10))])) (hg : (wr.alloc o).grownBy w2 v1.ownBlock)
    (hl : v2.ownBlock = v1.ownBlock ∨ v2.ownBlock = some (wr.heap.size + 1)) : Wdg w base v n bs x (k + 1) v2 w2 := by
  have sz := h.gr.size
  refine ⟨?_, ?_, ?_⟩
  · rw [pads_snoc]
    have e : n + (k + 1) = n + k + 1 := by omega
    rw [e]
    simpa using hown
  · refine ⟨hg.os.trans h.gr.os, hg.tape.trans h.gr.tape, hg.output.trans h.gr.output, Nat.le_trans sz (Nat.le_trans (by simp) hg.size), fun i hi hne => ?_⟩
    rw [hg.block i (by simp; omega) ?_, Below.heap_alloc wr o i (by omega), h.gr.block i hi hne]
    rcases h.lies with e | ⟨b, e, hb⟩
    · rw [e]; exact hne
    · rw [e]
      intro q
      injection q with q
      omega
  · rcases hl with e | e
    · rw [e]; exact h.lies
    · exact Or.inr ⟨_, e, by omega⟩
/-- What withDigits leaves. -/
def RetW (w : World) (base : Nat) (v : Value) (n : Nat) (bs : List UInt8) (x : Nat) (e : Ending) (w' : World) : Prop := ∃ v', e = .returned v' ∧ Wdg w base v n bs x 9 v' w'
theorem div10_cast (x : Nat) : (x : Int).tdiv 10 = ((x / 10 : Nat) : Int) := (Int.ofNat_tdiv x 10).symm

set_option maxHeartbeats 2000000 in
set_option maxRecDepth 100000 in
theorem withDigits_any {v : Value} {n base x : Nat} {bs : List UInt8} {w : World} (h : w.ownsRow base 5 1 v n (bs.map bv)) (hb : base ≤ w.heap.size) (hn : n ≤ 10000) (hx : x < 4294967296) :
    Calls Tryd.prog 73 #[v, lv x] w fun e w' => RetW w base v n bs x e w' := by
  have S0 : Wdg w base v n bs x 0 v w := ⟨by simpa [pads] using h, World.grownBy.refl w _, Or.inl rfl⟩
  obtain ⟨i0, hi, hz0, hz1, hz2⟩ := info_parts info_u8
  have HI := Lib.hid hi; have HZ0 := Lib.hid hz0; have HZ1 := Lib.hid hz1; have HZ2 := Lib.hid hz2
  clear h hi hz0 hz1 hz2
  go_enter Tryd.func73, Tryd.ntmps73
  go_wp2_with fail
  go_loopg [0, 1, 5] 9 (fun q s0 s1 s5 wr => ∃ (k y : Nat), k + q = 9 ∧ y < 4294967296 ∧ s5 = .int .i64 (k : Int) ∧ s1 = lv y ∧ Hid (y = x / 10 ^ k) ∧ Wdg w base v n bs x k s0 wr)
  case atStart => exact ⟨0, x, by omega, hx, rfl, rfl, by unfold Hid; simp, S0⟩
  case round =>
    clear S0
    obtain ⟨k, y, hq, hy, rfl, rfl, ey, S⟩ := hrel
    have HQ := Lib.hid hq
    by_cases lt : k < 9
    · have il : (k : Int) < 9 := by omega
      have hb2 : base ≤ wr.heap.size := Nat.le_trans hb S.gr.size
      have E1 : Hid (bv (dig (x / 10 ^ k % 10)) = Value.int IntKind.u8 (48 + (y : Int) % 10)) := by
        unfold Hid
        rw [ey.out]
        exact congrArg (Value.int .u8) (by rw [dig_toNat (Nat.mod_lt _ (by decide))]; omega)
      have SH := Lib.hid S
      have k9 := lt
      clear hq
      go_wp2_with (at_builtin; refine wpList_append_own_at _ rfl _ _ 85 rfl base 5 i0 (.int .u8 0) 1 1 Tryd.underlying85 HI.out HZ0.out HZ1.out HZ2.out rfl (by decide) u0 (n + k) ((bs ++ (pads k x).map dig).map bv) rfl (SH.out.own.alloc _) ⟨wr.heap.size, 0, none⟩ 1 1 [bv (dig (x / 10 ^ k % 10))] rfl rfl ?qc2 ?qc3 ?qc4 ?qc5 ?qc6 ?_)
      case qc2 =>
        intro j u hj
        rw [E1.out] at hj
        have : j = 0 := by
          have := (List.getElem?_eq_some_iff.1 hj).1
          simp at this
          omega
        subst this
        simp at hj
        rw [← hj]
        simp [go_sem, Addr.add]
      case qc3 => intro u hu; rw [List.mem_singleton] at hu; rw [hu]; rfl
      case qc4 => unfold maxLen; omega
      case qc5 => omega
      case qc6 => simp; omega
      intro v2 w2 hown hg _ hl
      have ST := SH.out.step (v2 := v2) (w2 := w2) (by simpa using hown) hg hl
      have STh := Lib.hid ST
      have EY : Hid (y / 10 = x / 10 ^ (k + 1)) := by unfold Hid; rw [ey.out, Nat.div_div_eq_div_mul, ← Nat.pow_succ]
      have y1 : y / 10 < 4294967296 := by omega
      clear hown hg hl ST S SH
      go_wp2_with fail
      go_roundg (gk - 1)
      case measure => have := HQ.out; omega
      case rel =>
        go_light
        exact ⟨k + 1, y / 10, by have := HQ.out; omega, y1, by go_num, congrArg (Value.int .u32) (by omega), EY, STh.out⟩
    · obtain rfl : 9 = k := by omega
      have S := Lib.hid S
      go_wp2_with fail
      go_ret
      exact ⟨_, rfl, S.out⟩

/-- Block g begins with these bytes. -/
structure Brow (w : World) (g : Nat) (bs : List UInt8) (ys : List Value) : Prop where
  blk : w.heap[g]? = some (.cells (bs.map bv ++ ys).toArray 5 (0, 0))
theorem Brow.cell {w : World} {g : Nat} {bs : List UInt8} {ys : List Value} (h : Brow w g bs ys) (i : Nat) (hi : i < bs.length) : w.cell? ⟨g, i, none⟩ = some (bv bs[i]) := by
  have := h.blk
  simp [World.cell?, this, List.getElem?_append_left, hi]
theorem Brow.melt {w : World} {g : Nat} {bs : List UInt8} {ys : List Value} (h : Brow w g bs ys) (i : Nat) : w.frozen? ⟨g, i, none⟩ = false := by
  have := h.blk
  simp [World.frozen?, this]
theorem Brow.lt {w : World} {g : Nat} {bs : List UInt8} {ys : List Value} (h : Brow w g bs ys) : g < w.heap.size := (Array.getElem?_eq_some_iff.1 h.blk).1
theorem Brow.set_ {w : World} {g : Nat} {bs : List UInt8} {ys : List Value} (h : Brow w g bs ys) (i : Nat) (hi : i < bs.length) (b : UInt8) : Brow (w.setCell ⟨g, i, none⟩ (bv b)) g (bs.set i b) ys := by
  refine ⟨?_⟩
  have := h.blk
  simp [World.setCell, Array.getElem?_modify, this]
  rw [List.set_append_left _ _ (by simpa using hi)]
theorem Brow.drew {w : World} {g : Nat} {bs : List UInt8} {ys : List Value} (h : Brow w g bs ys) : Brow w.drew g bs ys := ⟨h.blk⟩
theorem own_brow {w : World} {base n : Nat} {v : Value} {bs : List UInt8} (h : w.ownsRow base 5 1 v n (bs.map bv)) (hn : 0 < n) : ∃ g c ys, v = .slice (some ⟨g, 0, none⟩) n c ∧ base ≤ g ∧ n ≤ c ∧ c ≤ maxLen ∧ bs.length = n ∧ Brow w g bs ys := by
  have hl : bs.length = n := by have := h.1; simpa using this
  rcases h.2 with ⟨rfl, rfl⟩ | ⟨g, cap, cur, rfl, h0, hb, h1, h2, h3, h4⟩
  · omega
  · refine ⟨g, cap, cur.toList.drop n, rfl, h0, h1, h2, hl, ⟨?_⟩⟩
    rw [hb]
    have : cur = (bs.map bv ++ cur.toList.drop n).toArray := by
      apply Array.ext'
      rw [Nat.mul_one] at h4
      rw [← h4]
      simp
    rw [← this]

theorem map_dig_at (ds : List Nat) (k : Nat) (hk : k < ds.length) : (ds.map dig)[k]'(by simpa using hk) = dig ds[k] := by simp
set_option maxHeartbeats 1000000 in
set_option maxRecDepth 100000 in
theorem trimRightByte_any {g n c : Nat} {ds : List Nat} {ys : List Value} {w : World} (h : Brow w g (ds.map dig) ys) (hd : Dg ds) (hl : ds.length = n) (hc : n ≤ c) (ht : c ≤ 9223372036854775807) :
    Calls Tryd.prog 114 #[.slice (some ⟨g, 0, none⟩) n c, .int .u8 48] w fun e w' => ∃ k, k ≤ n ∧ e = .returned (.slice (some ⟨g, 0, none⟩) k c) ∧ ds.take k = tens (dv ds) ∧ w = w' := by
  have H := Lib.hid h; have HD := Lib.hid hd; have HL := Lib.hid hl
  clear h hd hl
  go_enter Tryd.func114, Tryd.ntmps114
  go_wp2_with fail
  go_loopg [0] n (fun q s0 wr => q ≤ n ∧ s0 = .slice (some ⟨g, 0, none⟩) q c ∧ Hid (dv (ds.take q) = dv ds) ∧ w = wr)
  case atStart => exact ⟨Nat.le_refl _, rfl, by unfold Hid; rw [List.take_of_length_le (by rw [HL.out]; exact Nat.le_refl _)], rfl⟩
  case round =>
    obtain ⟨hq, rfl, hv, rfl⟩ := hrel
    by_cases hz : gk = 0
    · subst hz
      have E : Hid (ds.take 0 = tens (dv ds)) := by unfold Hid; rw [← hv.out, List.take_zero, dv, tens_zero]
      go_wp2_with fail
      go_ret
      exact ⟨0, Nat.zero_le _, rfl, E.out, rfl⟩
    · obtain ⟨k, rfl⟩ : ∃ k, gk = k + 1 := ⟨gk - 1, by omega⟩
      have kx : k < ds.length := by rw [HL.out]; omega
      have hcell0 := H.out.cell k (by simpa using kx)
      rw [map_dig_at ds k kx] at hcell0
      have hcell : w.cell? ⟨g, k, none⟩ = some (.int .u8 ((dig ds[k]).toNat : Int)) := hcell0
      clear hcell0
      have hd := HD.out _ (List.getElem_mem kx)
      have et : ds.take (k + 1) = ds.take k ++ [ds[k]] := take_snoc ds k kx
      by_cases hx : ds[k] = 0
      · have HV : Hid (dv (ds.take k) = dv ds) := by unfold Hid; rw [← hv.out, et, hx, dv_snoc_zero]
        have hc0 : w.cell? ⟨g, k, none⟩ = some (.int .u8 48) := by rw [hcell, hx]; rfl
        clear hx hv hcell et hd
        go_wp2_with fail
        go_roundg k
        case measure => omega
        case rel => exact ⟨by omega, rfl, HV, rfl⟩
      · have E : Hid (ds.take (k + 1) = tens (dv ds)) := by
          unfold Hid
          rw [← hv.out]
          refine (tens_dv (HD.out.take _) (getLast_ne (x := ds[k]) ?_ hx)).symm
          rw [List.length_take, Nat.min_eq_left (by omega), Nat.add_sub_cancel, List.getElem?_take, if_pos (by omega), List.getElem?_eq_getElem kx]
        have ne : (((dig ds[k]).toNat : Int) == 48) = false := by
          rw [dig_toNat hd]
          simp; omega
        generalize ds[k] = x at *
        generalize ((dig x).toNat : Int) = y at *
        clear hx hv et hd
        go_wp2_with fail
        go_ret
        exact ⟨k + 1, by omega, rfl, E.out, rfl⟩
set_option maxRecDepth 100000 in
theorem trimRight_any {g n c : Nat} {ds : List Nat} {ys : List Value} {w : World} (h : Brow w g (ds.map dig) ys) (hd : Dg ds) (hl : ds.length = n) (hc : n ≤ c) (ht : c ≤ 9223372036854775807) (hn : 0 < n) :
    Calls Tryd.prog 74 #[.slice (some ⟨g, 0, none⟩) n c, .string ⟨#[48]⟩] w fun e w' => ∃ k, k ≤ n ∧ e = .returned (.slice (some ⟨g, 0, none⟩) k c) ∧ ds.take k = tens (dv ds) ∧ w = w' := by
  have K := Lib.hid (trimRightByte_any h hd hl hc ht)
  have h0 : ((n : Int) == 0) = false := by simp; omega
  clear h hd hl
  go_enter Tryd.func74, Tryd.ntmps74
  go_wp2_with fail
  refine K.out.mono ?_
  rintro e w' ⟨k, hk, rfl, E, rfl⟩
  have E := Lib.hid E
  go_wp2_with fail
  go_ret
  exact ⟨k, hk, rfl, E.out, rfl⟩
end Go.Proofs.YtdnikdocfbbkkaaDoor
namespace Go.Proofs.YtdnikdocfbbkkaaDoor
open Go.RowKit
set_option linter.unusedVariables false
set_option linter.unusedSimpArgs false

/-- So far turned round. -/
def Half2 (bs cs : List UInt8) (n i : Nat) : Prop := cs.length = n ∧ ∀ t, t < n → cs[t]? = if t < i ∨ n - i ≤ t then bs[n - 1 - t]? else bs[t]?
theorem Half2.start (bs : List UInt8) : Half2 bs bs bs.length 0 := ⟨rfl, fun t ht => by rw [if_neg (by omega)]⟩
theorem Half2.step {bs cs : List UInt8} {n i : Nat} (h : Half2 bs cs n i) (hi : i + 1 < n - i) : ∃ x y, cs[i]? = some x ∧ cs[n - 1 - i]? = some y ∧ Half2 bs ((cs.set i y).set (n - 1 - i) x) n (i + 1) := by
  have hl := h.1
  refine ⟨cs[i]'(by omega), cs[n - 1 - i]'(by omega), List.getElem?_eq_getElem _, List.getElem?_eq_getElem _, by simp [hl], ?_⟩
  intro t ht
  have e1 := h.2 i (by omega)
  have e2 := h.2 (n - 1 - i) (by omega)
  rw [if_neg (by omega)] at e1 e2
  by_cases a : t = n - 1 - i
  · subst a
    rw [List.getElem?_set_self (by simp; omega), if_pos (by omega), ← List.getElem?_eq_getElem, e1]
    congr 1
    omega
  · rw [List.getElem?_set_ne (by omega)]
    by_cases b : t = i
    · subst b
      rw [List.getElem?_set_self (by omega), if_pos (by omega), ← List.getElem?_eq_getElem, e2]
    · rw [List.getElem?_set_ne (by omega), h.2 t ht]
      by_cases c : t < i ∨ n - i ≤ t
      · rw [if_pos c, if_pos (by omega)]
      · rw [if_neg c, if_neg (by omega)]
theorem Half2.done {bs cs : List UInt8} {n i : Nat} (h : Half2 bs cs n i) (hb : bs.length = n) (hi : ¬ i + 1 < n - i) (hi2 : 2 * i ≤ n) : cs = bs.reverse := by
  apply List.ext_getElem?
  intro t
  by_cases ht : t < n
  · rw [h.2 t ht, List.getElem?_reverse (by omega), hb]
    by_cases c : t < i ∨ n - i ≤ t
    · rw [if_pos c]
    · rw [if_neg c]
      congr 1
      omega
  · rw [List.getElem?_eq_none (by rw [h.1]; omega), List.getElem?_eq_none (by simp; omega)]

set_option maxHeartbeats 2000000 in
set_option maxRecDepth 100000 in
theorem reverse_any {g n c : Nat} {bs : List UInt8} {ys : List Value} {w : World} (h : Brow w g bs ys) (hl : bs.length = n) (hn : n ≤ 100000) :
    Calls Tryd.prog 75 #[.slice (some ⟨g, 0, none⟩) n c] w fun e w' => e = .returned (.tuple #[]) ∧ Brow w' g bs.reverse ys ∧ Turn w w' g := by
  have S0 : Hid (Half2 bs bs n 0) := by unfold Hid; rw [← hl]; exact Half2.start bs
  have H0 := h
  have HL := Lib.hid hl
  clear h hl
  go_enter Tryd.func75, Tryd.ntmps75
  go_wp2_with fail
  go_loopg [2, 3] n (fun q s2 s3 wr => ∃ (i : Nat) (cs : List UInt8), i + q = n ∧ 2 * i ≤ n ∧ s2 = .int .i64 (i : Int) ∧ s3 = .int .i64 ((n : Int) - 1 - (i : Int)) ∧ Hid (Half2 bs cs n i) ∧ Brow wr g cs ys ∧ Turn w wr g)
  case atStart => exact ⟨0, bs, by omega, by omega, rfl, congrArg (Value.int .i64) (by omega), S0, H0, Turn.refl _ _⟩
  case round =>
    clear S0 H0
    obtain ⟨i, cs, hq, h2, rfl, rfl, S, R, T⟩ := hrel
    have HQ := Lib.hid hq
    by_cases lt : i + 1 < n - i
    · have il : (i : Int) < (n : Int) - 1 - (i : Int) := by omega
      obtain ⟨j, hj⟩ : ∃ j, i + j + 1 = n := ⟨n - 1 - i, by omega⟩
      have ej : (n : Int) - 1 - (i : Int) = (j : Int) := by omega
      rw [ej] at il ⊢
      obtain ⟨x, y, hx, hy, ST⟩ := S.out.step lt
      rw [show n - 1 - i = j by omega] at hy ST
      have ST := Lib.hid ST
      have ci : w = w := rfl
      obtain ⟨li, ei⟩ := List.getElem?_eq_some_iff.1 hx
      obtain ⟨lj, e2⟩ := List.getElem?_eq_some_iff.1 hy
      have c1 := R.cell i li
      have c2 := R.cell j lj
      rw [ei] at c1
      rw [e2] at c2
      have f1 := R.melt i
      have f2 := R.melt j
      have R2 := Lib.hid ((R.set_ i li y).set_ j (by simpa using lj) x)
      have T2 := Lib.hid ((T.setCell i (bv y)).setCell j (bv x))
      have i0 : (0 : Int) ≤ i := by omega
      have i1 : (i : Int) < n := by omega
      have j0 : (0 : Int) ≤ j := by omega
      have j1 : (j : Int) < n := by omega
      have ne : ¬ i = j := by omega
      have EJ := Lib.hid hj
      clear hx hy ei e2 S R T ci hq ej
      go_wp2_with fail
      go_region
      all_goals go_wp2_with fail
      all_goals go_roundg (gk - 1)
      case measure => have := HQ.out; omega
      case rel =>
        go_light
        exact ⟨i + 1, _, by have := HQ.out; omega, by omega, by go_num, congrArg (Value.int .i64) (by have := EJ.out; omega), ST, R2.out.drew, T2.out.drew⟩
    · have il : ¬ (i : Int) < (n : Int) - 1 - (i : Int) := by omega
      have e := S.out.done HL.out lt h2
      have R2 := Lib.hid (e ▸ R)
      have T2 := Lib.hid T
      clear S R T e hq
      go_wp2_with fail
      go_returns
      exact ⟨rfl, R2.out, T2.out⟩
theorem Brow.split {w : World} {g : Nat} {bs : List UInt8} {ys : List Value} (h : Brow w g bs ys) (k : Nat) : Brow w g (bs.take k) ((bs.drop k).map bv ++ ys) := by
  refine ⟨?_⟩
  rw [h.blk, ← List.append_assoc, ← List.map_append, List.take_append_drop]

theorem own_next {w w' : World} {base : Nat} {e : TypeId} {v : Value} {n : Nat} {xs : List Value} (h : w.ownsRow base e 1 v n xs) (hb : Below w.heap.size w w') : w'.ownsRow base e 1 v n xs := by
  obtain ⟨h1, h2⟩ := h
  refine ⟨h1, ?_⟩
  rcases h2 with h2 | ⟨g, cap, cur, hv, hg, hh, r⟩
  · exact Or.inl h2
  · exact Or.inr ⟨g, cap, cur, hv, hg, (hb.block g (Array.getElem?_eq_some_iff.1 hh).1).trans hh, r⟩
theorem Lim.grown {w w' : World} {A : Option Addr} {n c : Nat} {xs : List Nat} {row : Option Nat} (h : Lim w A n c xs) (hg : w.grownBy w' row) (hne : ∀ ad, A = some ad → some ad.block ≠ row) : Lim w' A n c xs :=
  ⟨h.len, h.cap, h.top, fun j hj => by
    obtain ⟨ad, e, hc⟩ := h.at_ j hj
    refine ⟨ad, e, hg.cell hc ?_⟩
    rw [block_add]
    exact hne ad e, h.lo⟩
/-- What is in the loop of Text. -/
structure Txt (w : World) (a x : Nat) (s0 s3 : Value) (wr : World) : Prop where
  ex : ∃ A n c ds j, s0 = .slice A n c ∧ Lim wr A n c (limbs x) ∧ Dg ds ∧ ds.length + 9 * j = 630 ∧ x < 10 ^ (9 * j) ∧ dv ds + 10 ^ ds.length * x = a ∧ wr.ownsRow w.heap.size 5 1 s3 ds.length ((ds.map dig).map bv)
  bl : Below w.heap.size w wr
theorem txt_step {P D x a : Nat} (h : D + P * x = a) : D + P * (x % 1000000000) + P * 1000000000 * (x / 1000000000) = a := by
  have e : x = x % 1000000000 + 1000000000 * (x / 1000000000) := by omega
  have : P * x = P * (x % 1000000000) + P * 1000000000 * (x / 1000000000) := by
    conv => lhs; rw [e, Nat.mul_add, ← Nat.mul_assoc]
  omega
theorem lt_630 {a : Nat} (h : ln a ≤ 64) : a < 10 ^ (9 * 70) := by
  have h1 := Nat.lt_of_lt_of_le (lt_ln a) (Nat.pow_le_pow_right B_pos h)
  rw [B_eq] at h1
  exact Nat.lt_trans h1 (by decide +kernel)

set_option maxHeartbeats 2000000 in
set_option maxRecDepth 100000 in
theorem text_any {A : Option Addr} {n c a : Nat} {w : World} (ha : Lim w A n c (limbs a)) (la : ln a ≤ 64) : Calls Tryd.prog 23 #[.slice A n c] w fun e w' => e = .returned (.string ⟨(dtext a).toArray⟩) ∧ Below w.heap.size w w' := by
  have RA := Lib.hid (right_yes ha la)
  have hl := ha.len
  rw [limbs_length] at hl
  by_cases hz : n = 0
  · subst hz
    have e := ln_eq_zero hl
    subst e
    have E := Lib.hid dtext_zero
    clear ha hl la
    go_enter Tryd.func23, Tryd.ntmps23
    go_wp2_with fail
    refine RA.out.mono ?_
    rintro e w' ⟨rfl, rfl⟩
    go_wp2_with fail
    go_ret
    exact ⟨by rw [E.out]; rfl, Below.refl _ _⟩
  · have h0 : ((n : Int) == 0) = false := by simpa using hz
    have a0 : a ≠ 0 := by rintro rfl; rw [ln_zero] at hl; omega
    have S0 : Txt w a a (.slice A n c) (.slice none 0 0) w := ⟨⟨A, n, c, [], 70, rfl, ha, .nil, rfl, lt_630 la, by simp [dv], World.ownsRow_nil w _ _ _⟩, Below.refl _ _⟩
    have A0 := Lib.hid a0
    have LA : Hid (ln a ≤ 70) := Nat.le_trans la (by decide)
    clear ha hl la a0
    go_enter Tryd.func23, Tryd.ntmps23
    go_wp2_with fail
    refine RA.out.mono ?_
    rintro e w' ⟨rfl, rfl⟩
    go_wp2_with fail
    go_loopg [0, 3] a (fun x s0 s3 wr => Txt w a x s0 s3 wr)
    case atStart => exact S0
    case round =>
      clear S0 RA
      obtain ⟨A, n, c, ds, j, rfl, L, hd, hj, hx, hv, own⟩ := hrel.ex
      have BL := hrel.bl
      have hl := L.len
      rw [limbs_length] at hl
      clear hrel
      by_cases x0 : gk = 0
      · subst x0
        rw [ln_zero] at hl
        subst hl
        rw [Nat.mul_zero, Nat.add_zero] at hv
        have k0 : 0 < ds.length := by
          rcases Nat.eq_zero_or_pos ds.length with k | k
          · have := List.eq_nil_of_length_eq_zero k
            subst this
            exact absurd hv.symm A0.out
          · exact k
        obtain ⟨g, c2, ys, rfl, hg, hc2, hm, _, R⟩ := own_brow own k0
        unfold maxLen at hm
        have KT := Lib.hid (trimRight_any R hd rfl hc2 hm k0)
        have DT : Hid (dtext a = ((tens a).map dig).reverse) := dtext_pos A0.out
        have k630 : ds.length ≤ 630 := by omega
        have HV := Lib.hid hv
        have HR := Lib.hid R
        clear L own hd hj hx hv R
        go_wp2_with fail
        refine KT.out.mono ?_
        rintro e w2 ⟨k, hk, rfl, E, rfl⟩
        rw [HV.out] at E
        have R2 := HR.out.split k
        rw [← List.map_take, E] at R2
        have tl : ((tens a).map dig).length = k := by rw [← E]; simp; omega
        have KR := Lib.hid (reverse_any (n := k) (c := c2) R2 tl (by omega))
        have TL := Lib.hid tl
        clear R2 E tl
        go_wp2_with fail
        refine KR.out.mono ?_
        rintro e w3 ⟨rfl, R3, T3⟩
        rw [← DT.out] at R3
        have dl : (dtext a).length = k := by rw [DT.out, List.length_reverse]; exact TL.out
        have hconv : (convert 85 9 (.slice (some ⟨g, 0, none⟩) k c2)).run Tryd.prog w3 = .ok (.string ⟨(dtext a).toArray⟩) w3 := by
          rw [← dl]
          refine run_convert_bytes_back w3 85 9 5 ⟨g, 0, none⟩ _ (dtext a) Tryd.underlying85 Tryd.underlying5 Tryd.underlying9 ?_
          intro j hj
          rw [add_lit, Nat.zero_add]
          exact R3.cell j hj
        have BL3 := BL.trans (T3.below hg)
        clear R3 T3 dl
        go_wp2_with fail
        go_ret
        exact ⟨rfl, BL3⟩
      · have xp := ln_pos x0
        have i0 : (0 : Int) < n := by omega
        have j1 : 1 ≤ j := by
          rcases Nat.eq_zero_or_pos j with q | q
          · subst q
            simp at hx
            exact absurd hx x0
          · exact q
        have n64 : n ≤ 70 := by
          rw [← hl]
          refine Nat.le_trans (ln_mono (b := a) ?_) ?_
          · have : 1 * gk ≤ 10 ^ ds.length * gk := Nat.mul_le_mul_right _ (Nat.pow_pos (by decide))
            omega
          · exact LA.out
        have KD := divShort_at (b := 1000000000) L (by omega) (by decide) (by decide)
        rw [val_limbs] at KD
        have KD := Lib.hid KD
        have hr : gk % 1000000000 < 1000000000 := Nat.mod_lt _ (by decide)
        have lt : gk / 1000000000 < gk := Nat.div_lt_self (Nat.pos_of_ne_zero x0) (by decide)
        have hxq : gk / 1000000000 < 10 ^ (9 * (j - 1)) := by
          refine (Nat.div_lt_iff_lt_mul (by decide)).2 ?_
          rw [show 9 * j = 9 * (j - 1) + 9 by omega, Nat.pow_add] at hx
          exact hx
        have hv2 : dv (ds ++ pads 9 (gk % 1000000000)) + 10 ^ (ds ++ pads 9 (gk % 1000000000)).length * (gk / 1000000000) = a := by
          rw [dv_append, dv_pads _ _ (by exact hr), List.length_append, pads_length, Nat.pow_add]
          exact txt_step hv
        have HV := Lib.hid hv2
        have OWN := Lib.hid own
        have HJ := Lib.hid hj
        generalize gk % 1000000000 = r at *
        generalize gk / 1000000000 = q at *
        clear L own hx hv hv2 hj
        go_wp2_with fail
        refine KD.out.mono ?_
        rintro e w1 ⟨A1, n1, c1, rfl, L1, H1, B1⟩
        have own1 := own_next OWN.out B1
        have OL := own1.lt
        have KW := Lib.hid (withDigits_any (x := r) own1 (Nat.le_trans BL.size B1.size) (by have := HJ.out; omega) (by omega))
        have L1h := Lib.hid L1; have H1h := Lib.hid H1; have OLh := Lib.hid OWN.out.lt
        clear L1 H1 OL own1
        go_wp2_with fail
        refine KW.out.mono ?_
        rintro e w2 ⟨v2, rfl, S⟩
        have L2 := L1h.out.grown S.gr (fun ad e => by
          have b1 := H1h.out ad e
          intro q2
          have := (OLh.out _ q2.symm).2
          omega)
        have own2 : w2.ownsRow w.heap.size 5 1 v2 (ds ++ pads 9 r).length (((ds ++ pads 9 r).map dig).map bv) := by
          have := S.own
          rw [← List.map_append] at this
          rwa [List.length_append, pads_length]
        have BL2 : Below w.heap.size w w2 := (below_step BL B1).grown S.gr (Nat.le_trans BL.size B1.size) (fun k e => (OLh.out k e).1)
        have T2 : Txt w a q (.slice A1 n1 c1) v2 w2 := ⟨⟨A1, n1, c1, _, j - 1, rfl, L2, hd.append (dg_pads _ _), by rw [List.length_append, pads_length]; have := HJ.out; omega, hxq, HV.out, own2⟩, BL2⟩
        have T2h := Lib.hid T2
        clear L2 own2 BL2 T2 S
        go_wp2_with fail
        go_roundg q
        case measure => exact lt
        case rel =>
          go_light
          exact T2h.out
set_option maxRecDepth 100000 in
theorem text_none {A : Option Addr} {n c : Nat} {xs : List Nat} {w : World} (ha : Lim w A n c xs) (h : ¬ Nt xs) : Calls Tryd.prog 23 #[.slice A n c] w fun e w' => e = .returned (.string ⟨#[]⟩) ∧ w = w' := by
  have RA := Lib.hid (right_no ha h)
  clear ha h
  go_enter Tryd.func23, Tryd.ntmps23
  go_wp2_with fail
  refine RA.out.mono ?_
  rintro e w' ⟨rfl, rfl⟩
  go_wp2_with fail
  go_ret
  exact ⟨rfl, rfl⟩
end Go.Proofs.YtdnikdocfbbkkaaDoor
