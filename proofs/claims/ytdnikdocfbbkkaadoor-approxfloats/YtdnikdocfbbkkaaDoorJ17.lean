/- What the model tells of any float64: whether it is a number, its difference with itself, whether it lies below 0. The program's approx: Float of what is none, and of 0; Exact. Plain arithmetic: the nearest float64 rises with the fraction; of what a float64 is it is that; of twice a fraction it is twice. Whole numbers as float64s, in the model. A block of two cells that is written anew. The document's answers for float64: middle, Float. -/
import Derived.Laws.FloatArith
import Derived.Laws.NewFold
import Derived.Test.YtdnikdocfbbkkaaDoorJ16
import Derived.Laws.BitsAllLaws
import Derived.Test.YtdnikdocfbbkkaaDoorJ10
namespace Go.Proofs.YtdnikdocfbbkkaaDoor
set_option linter.unusedVariables false
set_option linter.unusedSimpArgs false

/-- Bits that stand for no number. -/
def NaN (y : Nat) : Prop := ∃ s t, Ieee.double.read y = .nan s t
theorem nan_order {y : Nat} (h : NaN y) (b : Nat) : Ieee.double.order y b = none := by
  obtain ⟨s, t, e⟩ := h
  unfold Ieee.Format.order
  rw [e]; rfl
theorem nan_drawn (t : Nat) : NaN ((t % 2) * 2 ^ 63 + 0x7ff0000000000000 + 1 + (t / 2) % (2 ^ 52 - 1)) := by
  have h1 := Nat.mod_lt (t / 2) (show 0 < 2 ^ 52 - 1 by decide)
  generalize t / 2 % (2 ^ 52 - 1) = f at *
  have h2 : f < 4503599627370495 := h1
  clear h1
  rcases Nat.mod_two_eq_zero_or_one t with h | h
  · rw [h]
    obtain ⟨u, e⟩ := read_nan (x := 0 * 2 ^ 63 + 0x7ff0000000000000 + 1 + f) (r := 0x7ff0000000000000 + 1 + f) false (by simp) (by omega) (by omega)
    exact ⟨_, _, e⟩
  · rw [h]
    obtain ⟨u, e⟩ := read_nan (x := 1 * 2 ^ 63 + 0x7ff0000000000000 + 1 + f) (r := 0x7ff0000000000000 + 1 + f) true (by simp; omega) (by omega) (by omega)
    exact ⟨_, _, e⟩
/-- The three kinds of bits. -/
theorem kinds {x : Nat} (h : x < 18446744073709551616) : (∃ (s : Bool) (r : Nat), x = (if s then 9223372036854775808 else 0) + r ∧ r < 9218868437227405312) ∨ (∃ s, Ieee.double.read x = .infinity s) ∨ NaN x := by
  obtain ⟨s, r, e, lt⟩ := word_parts h
  rcases Nat.lt_trichotomy r 9218868437227405312 with k | k | k
  · exact Or.inl ⟨s, r, e, k⟩
  · exact Or.inr (Or.inl ⟨s, read_inf s (by rw [e, k])⟩)
  · obtain ⟨t, z⟩ := read_nan s e k lt
    exact Or.inr (Or.inr ⟨s, t, z⟩)
theorem order_self_num {x r : Nat} {s : Bool} (hx : x = (if s then 9223372036854775808 else 0) + r) (hr : r < 9218868437227405312) : Ieee.double.order x x = some .eq := by
  unfold Ieee.Format.order
  rw [read_fin s hx hr]
  simp [Ieee.Datum.order]
theorem order_self_inf {x : Nat} {s : Bool} (h : Ieee.double.read x = .infinity s) : Ieee.double.order x x = some .eq := by
  unfold Ieee.Format.order
  rw [h]
  cases s <;> decide
theorem mant_zero {r : Nat} : mant r = 0 ↔ r = 0 := by
  by_cases h : r / 4503599627370496 = 0
  · rw [mant_low h]; omega
  · rw [mant_high h]; omega
/-- Below 0: with the sign, and not 0. -/
theorem order_zero_num {x r : Nat} {s : Bool} (hx : x = (if s then 9223372036854775808 else 0) + r) (hr : r < 9218868437227405312) : (Ieee.double.order x 0 == some .lt) = (s && decide (r ≠ 0)) := by
  unfold Ieee.Format.order
  rw [read_fin s hx hr, read_fin (x := 0) (r := 0) false (by simp) (by decide)]
  have hm : mant 0 = 0 := mant_zero.2 rfl
  rw [hm]
  simp only [Ieee.Datum.order, sig_false, Nat.zero_mul]
  generalize (-1074 + ((r / 4503599627370496 - 1 : Nat) : Int) - min (-1074 + ((r / 4503599627370496 - 1 : Nat) : Int)) (-1074 + ((0 / 4503599627370496 - 1 : Nat) : Int))).toNat = u
  have hu := pw_pos u
  cases s
  · rw [sig_false]
    have : compare ((mant r * pw u : Nat) : Int) ((0 : Nat) : Int) ≠ .lt := fun z => by have := Int.compare_eq_lt.1 z; omega
    simpa using this
  · rw [sig_true]
    by_cases z : r = 0
    · subst z; rw [hm, Nat.zero_mul]; simp
    · have m0 : mant r ≠ 0 := fun h => z (mant_zero.1 h)
      have := Nat.mul_pos (Nat.pos_of_ne_zero m0) hu
      rw [Int.compare_eq_lt.2 (by omega)]
      simp [z]
theorem sub_self_num {x r : Nat} {s : Bool} (hx : x = (if s then 9223372036854775808 else 0) + r) (hr : r < 9218868437227405312) : Ieee.double.sub x x = some 0 := by
  unfold Ieee.Format.sub
  rw [read_fin s hx hr]
  simp only [Ieee.Datum.opposite, Ieee.Datum.sum, Int.min_self, Int.sub_self, Int.toNat_zero]
  have e : Ieee.signed s (mant r) 0 + Ieee.signed (!s) (mant r) 0 = 0 := by
    cases s
    · rw [show (!false) = true from rfl, sig_false, sig_true]; omega
    · rw [show (!true) = false from rfl, sig_false, sig_true]; omega
  rw [e]
  have f : (s && !s) = false := by cases s <;> rfl
  simp [f, Ieee.Format.write, Ieee.Format.nearest, Ieee.Format.word]
theorem sub_self_inf {x : Nat} {s : Bool} (h : Ieee.double.read x = .infinity s) : Ieee.double.sub x x = none := by
  unfold Ieee.Format.sub
  rw [h]
  cases s <;> rfl
theorem sub_self_nan {x : Nat} (h : NaN x) : Ieee.double.sub x x = none := by
  obtain ⟨s, t, e⟩ := h
  unfold Ieee.Format.sub
  rw [e]; rfl
/-- 'f - f' where it has no answer: some NaN is drawn. -/
theorem run_sub_none {P : Program} {w : World} {t : TypeId} {x y : Nat} (h : Ieee.double.sub x y = none) : ∃ z, (binOp .sub t (.float .f64 x) (.float .f64 y)).run P w = .ok (.float .f64 z) w.drew ∧ NaN z := by
  refine ⟨_, ?_, nan_drawn (w.tape w.drawn (.nanBits .f64 x y))⟩
  have h' : FloatKind.f64.format.sub x y = none := h
  simp [binOp, Op.floatArith, h', Question.forced, Question.cut]
end Go.Proofs.YtdnikdocfbbkkaaDoor
namespace Go.Proofs.YtdnikdocfbbkkaaDoor
open Go.RowKit
set_option linter.unusedVariables false
set_option linter.unusedSimpArgs false

set_option maxHeartbeats 4000000 in
set_option maxRecDepth 100000 in
theorem float_zero {A A' : Option Addr} {n c n' c' q : Nat} {w : World} (ha : Lim w A n c (limbs 0)) (hb : Lim w A' n' c' (limbs q)) (f : Fq 0 q) : Calls Tryd.prog 53 #[.agg #[.slice A n c, .slice A' n' c']] w fun e w' => e = .returned (.tuple #[.float .f64 0, .int .i64 0]) ∧ Below w.heap.size w w' := by
  have hl := ha.len
  rw [limbs_length, ln_zero] at hl
  subst hl
  have S := ((Fs.start w).put ha).put hb |>.box (.slice A 0 c) (.slice A' n' c')
  have FF := Lib.hid f
  clear ha hb f
  go_enter Tryd.func53, Tryd.ntmps53
  go_wp2_with fail
  generalize w.alloc (.cells #[.slice A 0 c, .slice A' n' c'] 50) = w0 at *
  generalize w.heap.size = b0 at *
  have K := ratRight_any S.lie.2.1 S.lie.1
  rw [frB_yes FF.out.fr] at K
  refine K.mono ?_
  clear K
  rintro e w1 ⟨rfl, B1⟩
  have S := S.next B1
  clear B1
  obtain ⟨⟨r0, r1, -⟩, -⟩ := S.cel
  go_wp2_with fail
  go_ret2
  exact ⟨rfl, S.bl⟩
set_option maxHeartbeats 4000000 in
set_option maxRecDepth 100000 in
theorem float_no {A A' : Option Addr} {n c n' c' : Nat} {xs ys : List Nat} {w : World} (ha : Lim w A n c xs) (hb : Lim w A' n' c' ys) (f : ¬ Fr xs ys) : Calls Tryd.prog 53 #[.agg #[.slice A n c, .slice A' n' c']] w fun e w' => e = .returned (.tuple #[.float .f64 0, .int .i64 1]) ∧ Below w.heap.size w w' := by
  have S := ((Fs.start w).put ha).put hb |>.box (.slice A n c) (.slice A' n' c')
  have FF := Lib.hid f
  clear ha hb f
  go_enter Tryd.func53, Tryd.ntmps53
  go_wp2_with fail
  generalize w.alloc (.cells #[.slice A n c, .slice A' n' c'] 50) = w0 at *
  generalize w.heap.size = b0 at *
  have K := ratRight_any S.lie.2.1 S.lie.1
  rw [frB_no FF.out] at K
  refine K.mono ?_
  clear K
  rintro e w1 ⟨rfl, B1⟩
  have S := S.next B1
  clear B1
  go_wp2_with fail
  go_ret2
  exact ⟨rfl, S.bl⟩
theorem float_fq {A A' : Option Addr} {n c n' c' p q : Nat} {w : World} (ha : Lim w A n c (limbs p)) (hb : Lim w A' n' c' (limbs q)) (f : Fq p q) : Calls Tryd.prog 53 #[.agg #[.slice A n c, .slice A' n' c']] w fun e w' => ∃ b, Fl p q b ∧ e = .returned (.tuple #[.float .f64 b, .int .i64 0]) ∧ Below w.heap.size w w' := by
  by_cases p0 : p = 0
  · subst p0
    refine (float_zero ha hb f).mono ?_
    rintro e w' ⟨rfl, B⟩
    exact ⟨0, fl_zero0 f.q0, rfl, B⟩
  · exact float_yes ha hb f p0
set_option maxRecDepth 100000 in
theorem isnan_call {x : Nat} {b : Bool} (h : (FloatKind.f64.format.order x x != some .eq) = b) (w : World) : Calls Tryd.prog 102 #[.float .f64 x] w fun e w' => e = .returned (.bool b) ∧ w = w' := by
  go_enter Tryd.func102, Tryd.ntmps102
  go_wp2_with fail
  go_ret
  exact ⟨rfl, rfl⟩
theorem and_not {s : Bool} {x r : Nat} (hx : x = (if s then 9223372036854775808 else 0) + r) (hr : r < 9223372036854775808) : bits .andNot .u64 (x : Int) 9223372036854775808 = (r : Int) := by
  have e := u64_andNot_nat x 9223372036854775808 (by cases s <;> simp at hx <;> omega) (by decide)
  refine e.trans ?_
  congr 1
  rw [show 18446744073709551615 - 9223372036854775808 = 2 ^ 63 - 1 by decide, Nat.and_two_pow_sub_one_eq_mod]
  cases s <;> simp at hx <;> omega
set_option maxRecDepth 100000 in
theorem abs_call {s : Bool} {x r : Nat} (hx : x = (if s then 9223372036854775808 else 0) + r) (hr : r < 9223372036854775808) (w : World) : Calls Tryd.prog 128 #[.float .f64 x] w fun e w' => e = .returned (.float .f64 r) ∧ w = w' := by
  have e := and_not hx hr
  have F := ffrom r
  clear hx hr
  go_enter Tryd.func128, Tryd.ntmps128
  go_wp2_with (first | simp only [fbits x] | simp only [F] | fail)
  go_ret
  exact ⟨rfl, rfl⟩
set_option maxRecDepth 100000 in
theorem isinf_call {s : Bool} {x r : Nat} (hx : x = (if s then 9223372036854775808 else 0) + r) (hr : r ≤ 9218868437227405312) (w : World) : Calls Tryd.prog 103 #[.float .f64 x, .int .i64 0] w fun e w' => e = .returned (.bool (decide (r = 9218868437227405312))) ∧ w = w' := by
  have K := Lib.hid (fun W => abs_call hx (by omega) W)
  have e : (FloatKind.f64.format.order r 9218868437227405311 == some .gt) = decide (r = 9218868437227405312) := by
    have := order_rung (a := r) (b := 9218868437227405311) hr (by decide)
    rw [show FloatKind.f64.format = Ieee.double from rfl, this]
    by_cases z : r = 9218868437227405312
    · rw [decide_eq_true z, z]; decide
    · rw [decide_eq_false z]
      have : compare r 9218868437227405311 ≠ .gt := fun h => by
        have := Nat.compare_eq_gt.1 h
        omega
      cases hc : compare r 9218868437227405311 <;> first | rfl | exact absurd hc this
  generalize decide (r = 9218868437227405312) = b at *
  clear hx hr
  go_enter Tryd.func103, Tryd.ntmps103
  go_wp2_with fail
  refine (K.out _).mono ?_
  rintro e w' ⟨rfl, rfl⟩
  go_wp2_with fail
  go_ret
  exact ⟨rfl, rfl⟩
theorem parts_num {r : Nat} (hr : r < 9218868437227405312) : bits .and .u64 (r : Int) 4503599627370495 = ((r % 4503599627370496 : Nat) : Int) ∧ bits .or .u64 ((r % 4503599627370496 : Nat) : Int) 4503599627370496 = ((r % 4503599627370496 + 4503599627370496 : Nat) : Int) := by
  constructor
  · refine (u64_and_nat r 4503599627370495 (by omega) (by decide)).trans ?_
    congr 1
    rw [show 4503599627370495 = 2 ^ 52 - 1 by decide, Nat.and_two_pow_sub_one_eq_mod]
  · refine (u64_or_nat _ 4503599627370496 (by omega) (by decide)).trans ?_
    congr 1
    have := Nat.two_pow_add_eq_or_of_lt (i := 52) (b := r % 4503599627370496) (Nat.mod_lt _ (by decide)) 1
    rw [show 2 ^ 52 * 1 = 4503599627370496 by decide] at this
    rw [Nat.or_comm, ← this, Nat.add_comm]
set_option maxHeartbeats 4000000 in
set_option maxRecDepth 100000 in
theorem parts_call {r : Nat} (hr : r < 9218868437227405312) (w : World) : Calls Tryd.prog 104 #[.float .f64 r] w fun e w' => e = .returned (.tuple #[.int .u64 (mant r : Int), .int .i64 ((ex r : Int) - 1075)]) ∧ w = w' := by
  obtain ⟨e1, e2⟩ := parts_num hr
  by_cases z : r / 4503599627370496 = 0
  · rw [mant_low z, ex_low z]
    have e3 : (r : Int) / 4503599627370496 = 0 := by omega
    clear e2 z hr
    generalize r % 4503599627370496 = f at *
    go_enter Tryd.func104, Tryd.ntmps104
    go_wp2_with (first | simp only [fbits r] | fail)
    go_ret2
    exact ⟨rfl, rfl⟩
  · rw [mant_high z, ex_high z]
    have e3 : (r : Int) / 4503599627370496 = ((r / 4503599627370496 : Nat) : Int) := by omega
    have e4 : (((r / 4503599627370496 : Nat) : Int) == 0) = false := by simp; omega
    have e5 : ((r / 4503599627370496 : Nat) : Int) ≤ 2046 := by omega
    have e6 : (0 : Int) ≤ ((r / 4503599627370496 : Nat) : Int) := by omega
    clear z hr
    have E2 := Lib.hid e2
    clear e2
    generalize r % 4503599627370496 = f at *
    generalize r / 4503599627370496 = t at *
    go_enter Tryd.func104, Tryd.ntmps104
    go_wp2_with (first | simp only [fbits r] | fail)
    go_ret2
    refine ⟨?_, rfl⟩
    have e7 : (-1074 + (t : Int) - 1) = t - 1075 := by omega
    rw [E2.out, e7]
    rfl
end Go.Proofs.YtdnikdocfbbkkaaDoor
namespace Go.Proofs.YtdnikdocfbbkkaaDoor
set_option linter.unusedVariables false
set_option linter.unusedSimpArgs false

theorem Bel.less {p q p' q' b : Nat} (q0 : q ≠ 0) (q0' : q' ≠ 0) (le : p * q' ≤ p' * q) (h : Bel p' q' b) : Bel p q b := by
  have Q' := Nat.pos_of_ne_zero q0'
  unfold Bel at *
  generalize fv b + fv (b + 1) = M at *
  generalize 2 * pw 1074 = T at *
  have h1 : p * T * q' ≤ p' * T * q := by
    have := Nat.mul_le_mul_right T le
    rw [show p * T * q' = p * q' * T by grind, show p' * T * q = p' * q * T by grind]
    exact this
  rcases h with h | ⟨h, e⟩
  · left
    have h2 : p' * T * q < q' * M * q := Nat.mul_lt_mul_of_pos_right h (Nat.pos_of_ne_zero q0)
    refine Nat.lt_of_mul_lt_mul_right (a := q') ?_
    rw [show q * M * q' = q' * M * q by grind]
    omega
  · have h2 : p * T * q' ≤ q * M * q' := by rw [show q * M * q' = q' * M * q by grind, ← h]; exact h1
    have h3 := Nat.le_of_mul_le_mul_right h2 Q'
    rcases Nat.lt_or_eq_of_le h3 with h4 | h4
    · exact Or.inl h4
    · exact Or.inr ⟨h4, e⟩
/-- A greater fraction has no lesser one. -/
theorem Fl.mono {p q p' q' x y : Nat} (q0 : q ≠ 0) (q0' : q' ≠ 0) (le : p * q' ≤ p' * q) (h : Fl p q x) (k : Fl p' q' y) : x ≤ y := by
  refine Nat.le_of_not_lt fun z => ?_
  exact h.lo y z ((k.hi (Nat.lt_of_lt_of_le z h.le)).less q0 q0' le)
/-- What a float64 is has that float64. -/
theorem fl_exact {x y b : Nat} (y0 : y ≠ 0) (g : x * pw 1074 = fv b * y) (lt : b < 9218868437227405312) : Fl x y b := by
  have Y := Nat.pos_of_ne_zero y0
  have e : x * (2 * pw 1074) = y * (2 * fv b) := by
    rw [show x * (2 * pw 1074) = 2 * (x * pw 1074) by generalize pw 1074 = t; grind, g]; grind
  refine Fl.mk' y0 (by omega) (fun _ => Or.inl ?_) fun nz => ?_
  · rw [e]
    refine Nat.mul_lt_mul_of_pos_left ?_ Y
    have := fv_lt (show b < b + 1 by omega)
    omega
  · obtain ⟨r, rfl⟩ : ∃ r, b = r + 1 := ⟨b - 1, by omega⟩
    have h2 : y * (fv r + fv (r + 1)) < y * (2 * fv (r + 1)) := Nat.mul_lt_mul_of_pos_left (by have := fv_lt (show r < r + 1 by omega); omega) Y
    rw [Nat.add_sub_cancel]
    rintro (h | ⟨h, _⟩)
    · rw [e] at h; omega
    · rw [e] at h; omega
/-- Of numbers with 53 bits twice is one exponent up. -/
theorem fv_double {b : Nat} (h : 4503599627370496 ≤ b) : fv (b + 4503599627370496) = 2 * fv b := by
  have e1 : (b + 4503599627370496) / 4503599627370496 = b / 4503599627370496 + 1 := by omega
  have e2 : (b + 4503599627370496) % 4503599627370496 = b % 4503599627370496 := by omega
  obtain ⟨k, hk⟩ : ∃ k, b / 4503599627370496 = k + 1 := ⟨b / 4503599627370496 - 1, by omega⟩
  rw [fv_high (b := b + 4503599627370496) (by omega), fv_high (b := b) (by omega), e1, e2, hk, Nat.add_sub_cancel, Nat.add_sub_cancel, pw_succ]
  generalize pw k = t; grind
theorem Bel.double {p q b : Nat} (h : 4503599627370496 ≤ b) : Bel (2 * p) q (b + 4503599627370496) ↔ Bel p q b := by
  unfold Bel
  have e : fv (b + 4503599627370496 + 1) = 2 * fv (b + 1) := by rw [show b + 4503599627370496 + 1 = (b + 1) + 4503599627370496 by omega]; exact fv_double (by omega)
  rw [fv_double h, e, show (b + 4503599627370496) % 2 = b % 2 by omega, show 2 * p * (2 * pw 1074) = 2 * (p * (2 * pw 1074)) by generalize pw 1074 = t; grind, show q * (2 * fv b + 2 * fv (b + 1)) = 2 * (q * (fv b + fv (b + 1))) by grind]
  generalize p * (2 * pw 1074) = u
  generalize q * (fv b + fv (b + 1)) = v
  omega
/-- The nearest one of twice a fraction, where the one of the fraction has 53 bits, and one more exponent is there. -/
theorem Fl.double {p q b : Nat} (q0 : q ≠ 0) (h : 4503599627370496 < b) (lt : b + 4503599627370496 < 9218868437227405312) (k : Fl p q b) : Fl (2 * p) q (b + 4503599627370496) := by
  refine Fl.mk' q0 (by omega) (fun _ => (Bel.double (by omega)).2 (k.hi (by omega))) fun _ z => ?_
  rw [show b + 4503599627370496 - 1 = (b - 1) + 4503599627370496 by omega] at z
  exact k.lo (b - 1) (by omega) ((Bel.double (by omega)).1 z)
/-- The model's 2 * f. -/
theorem mul_two {b : Nat} (h : 4503599627370496 ≤ b) (lt : b + 4503599627370496 < 9218868437227405312) : Ieee.double.mul 4611686018427387904 b = some (b + 4503599627370496) := by
  unfold Ieee.Format.mul
  have r2 : Ieee.double.read 4611686018427387904 = .number false 4503599627370496 (-51) := by decide
  rw [r2, read_fin (x := b) (r := b) false (by simp) (by omega)]
  simp only [Ieee.Datum.product, Option.map_some, Ieee.Format.write, Bool.xor_false]
  have f := nearest_fl (mag := 4503599627370496 * mant b) (p := fv (b + 4503599627370496)) (q := pw 1074) (a := 1125) (b := b / 4503599627370496 - 1) (place := -51 + (-1074 + ((b / 4503599627370496 - 1 : Nat) : Int))) (Nat.ne_of_gt (pw_pos _)) (by omega) (by
    rw [fv_double h, fv_mant b, show (4503599627370496 : Nat) * mant b * pw (b / 4503599627370496 - 1) = mant b * pw (b / 4503599627370496 - 1) * 4503599627370496 by generalize pw (b / 4503599627370496 - 1) = t; grind]
    generalize mant b * pw (b / 4503599627370496 - 1) = X
    have e52 : (4503599627370496 : Nat) = pw 52 := by rw [pw_eq]
    have e : pw 1074 * pw 52 = pw 1125 * 2 := by rw [← pw_add 1074 52, ← pw_succ 1125]
    rw [show pw 1074 * (X * 4503599627370496) = X * (pw 1074 * pw 52) by rw [← e52]; generalize pw 1074 = t; grind, e]
    generalize pw 1125 = t; grind)
  have g := fl_exact (x := fv (b + 4503599627370496)) (y := pw 1074) (b := b + 4503599627370496) (Nat.ne_of_gt (pw_pos _)) rfl (by omega)
  rw [f.same g]
end Go.Proofs.YtdnikdocfbbkkaaDoor
namespace Go.Proofs.YtdnikdocfbbkkaaDoor
set_option linter.unusedVariables false
set_option linter.unusedSimpArgs false

/-- The model's float64(n) is the nearest one. -/
theorem float_of_nat (n : Nat) : Fl n 1 (floatOfInt .f64 (n : Int)) := by
  have e : floatOfInt .f64 (n : Int) = Ieee.double.nearest false n 0 := by
    unfold floatOfInt FloatKind.nearest FloatKind.encode
    have h : decide ((n : Int) < 0) = false := by simp
    rw [h]
    rfl
  rw [e]
  exact nearest_fl (a := 0) (b := 0) (by decide) (by omega) (by rw [Nat.one_mul, pw_zero])
/-- Up to 2^53 a whole number is a float64. -/
theorem whole_is {n : Nat} (h : n ≤ 9007199254740992) : ∃ b, b < 9218868437227405312 ∧ fv b = n * pw 1074 := by
  by_cases z : n = 0
  · subst z
    exact ⟨0, by decide, by rw [fv_low (by decide), Nat.zero_mul]⟩
  · by_cases t : n = 9007199254740992
    · subst t
      refine ⟨1075 * 4503599627370496 + 4503599627370496, by decide, ?_⟩
      rw [fv_at (Or.inr (by decide)) (by decide), pw_succ 1074]
      generalize pw 1074 = u; omega
    · have l1 := Nat.log2_self_le z
      have l2 : n < 2 ^ (n.log2 + 1) := Nat.lt_log2_self
      have l3 : n.log2 ≤ 52 := Nat.le_of_not_lt fun k => by
        have : 2 ^ 53 ≤ 2 ^ n.log2 := Nat.pow_le_pow_right (by decide) k
        omega
      rw [← pw_eq] at l1 l2
      generalize n.log2 = lg at *
      have e1 : pw lg * pw (52 - lg) = 4503599627370496 := by rw [← pw_add, show lg + (52 - lg) = 52 by omega, pw_eq]
      have e2 : pw (lg + 1) * pw (52 - lg) = 9007199254740992 := by rw [← pw_add, show lg + 1 + (52 - lg) = 53 by omega, pw_eq]
      have h1 : 4503599627370496 ≤ n * pw (52 - lg) := by rw [← e1]; exact Nat.mul_le_mul_right _ l1
      have h2 : n * pw (52 - lg) < 9007199254740992 := by rw [← e2]; exact Nat.mul_lt_mul_of_pos_right l2 (pw_pos _)
      refine ⟨(1022 + lg) * 4503599627370496 + n * pw (52 - lg), by omega, ?_⟩
      rw [fv_at (Or.inr h1) (by omega), Nat.mul_assoc, ← pw_add, show 52 - lg + (1022 + lg) = 1074 by omega]
/-- The model's uint64(f), of a whole number's float64. -/
theorem back_to_nat {n b : Nat} (hb : b < 9218868437227405312) (h : fv b = n * pw 1074) (hn : n < 18446744073709551616) : floatToIntVal .f64 b .u64 = some (n : Int) := by
  unfold floatToIntVal
  have hr : FloatKind.f64.decode b = .number false (mant b) (-1074 + ((b / 4503599627370496 - 1 : Nat) : Int)) := read_fin (x := b) (r := b) false (by simp) hb
  rw [hr]
  rw [fv_mant] at h
  generalize b / 4503599627370496 - 1 = j at *
  generalize mant b = M at *
  have key : Ieee.Toward.zero.cut false (M <<< (-1074 + (j : Int)).toNat) (-(-1074 + (j : Int))).toNat = n := by
    unfold Ieee.Toward.cut
    simp only [Nat.shiftLeft_eq, Nat.one_mul, Bool.toNat_false, Nat.add_zero]
    by_cases c : 1074 ≤ j
    · rw [show (-1074 + (j : Int)).toNat = j - 1074 by omega, show (-(-1074 + (j : Int))).toNat = 0 by omega, Nat.zero_min, Nat.pow_zero, Nat.div_one, ← pw_eq]
      refine Nat.eq_of_mul_eq_mul_right (pw_pos 1074) ?_
      rw [← h, Nat.mul_assoc, ← pw_add, show j - 1074 + 1074 = j by omega]
    · rw [show (-1074 + (j : Int)).toNat = 0 by omega, show (-(-1074 + (j : Int))).toNat = 1074 - j by omega, Nat.pow_zero, Nat.mul_one]
      have hM : M = n * pw (1074 - j) := by
        refine Nat.eq_of_mul_eq_mul_right (pw_pos j) ?_
        rw [h, Nat.mul_assoc, ← pw_add, show 1074 - j + j = 1074 by omega]
      by_cases d : 1074 - j ≤ M.log2 + 2
      · rw [Nat.min_eq_left d, ← pw_eq, hM]
        exact Nat.mul_div_cancel _ (pw_pos _)
      · rw [Nat.min_eq_right (by omega)]
        have l2 : M < 2 ^ (M.log2 + 1) := Nat.lt_log2_self
        have n0 : n = 0 := by
          rcases Nat.eq_zero_or_pos n with z | z
          · exact z
          · have h1 : pw (1074 - j) ≤ M := by rw [hM]; exact Nat.le_mul_of_pos_left _ z
            have h2 : 2 ^ (M.log2 + 1) ≤ pw (1074 - j) := by rw [pw_eq]; exact Nat.pow_le_pow_right (by decide) (by omega)
            omega
        rw [n0]
        refine Nat.div_eq_of_lt (Nat.lt_of_lt_of_le l2 (Nat.pow_le_pow_right (by decide) (by omega)))
  simp only [Ieee.Datum.toInt, Ieee.Datum.integral, key, sig_false, pw_zero, Nat.mul_one]
  rw [if_pos]
  have : IntKind.u64.max = 18446744073709551615 := by decide
  have h0 : IntKind.u64.min = 0 := by decide
  omega
end Go.Proofs.YtdnikdocfbbkkaaDoor
namespace Go.Proofs.YtdnikdocfbbkkaaDoor
open Go.RowKit
set_option linter.unusedVariables false
theorem Lies.set2 {W : World} {b : Nat} {B B' : Option Addr} {m k m' k' : Nat} (c0 : W.cell? ⟨b, 0, none⟩ = some (.slice B m k)) (c1 : W.cell? ⟨b, 1, none⟩ = some (.slice B' m' k')) (u' v' : Value) : ∀ {l : List (Option Addr × Nat × Nat × List Nat)}, Lies l W → Lies l ((W.setCell ⟨b, 0, none⟩ u').setCell ⟨b, 1, none⟩ v')
  | [], _ => trivial
  | (_, _, _, _) :: _, h => ⟨h.1.put2 c0 c1 _ _, Lies.set2 c0 c1 u' v' h.2⟩
theorem cels_keep {W : World} {b : Nat} (u' v' : Value) : ∀ {l : List (Nat × Value × Value)}, (∀ x ∈ l, x.1 ≠ b) → Cels l W → Cels l ((W.setCell ⟨b, 0, none⟩ u').setCell ⟨b, 1, none⟩ v')
  | [], _, _ => trivial
  | (c, _, _) :: _, hne, h => by
    have hc : c ≠ b := hne _ List.mem_cons_self
    exact ⟨⟨keep_set (keep_set h.1.1 _ hc) _ hc, keep_set (keep_set h.1.2.1 _ hc) _ hc, (World.frozen?_setCell _ _ _ _).trans ((World.frozen?_setCell _ _ _ _).trans h.1.2.2.1), (World.frozen?_setCell _ _ _ _).trans ((World.frozen?_setCell _ _ _ _).trans h.1.2.2.2.1), by simpa using h.1.2.2.2.2⟩, cels_keep u' v' (fun x hx => hne x (by simp [hx])) h.2⟩
theorem cels_app {W : World} : ∀ {p q : List (Nat × Value × Value)}, Cels (p ++ q) W ↔ Cels p W ∧ Cels q W
  | [], q => ⟨fun h => ⟨trivial, h⟩, fun h => h.2⟩
  | (_, _, _) :: p, q => by
    show _ ∧ Cels (p ++ q) W ↔ (_ ∧ Cels p W) ∧ Cels q W
    rw [cels_app]
    exact ⟨fun h => ⟨⟨h.1, h.2.1⟩, h.2.2⟩, fun h => ⟨h.1.1, h.1.2, h.2⟩⟩
/-- A block that is written anew. -/
theorem Fs.set {w W : World} {p q : List (Nat × Value × Value)} {l : List (Option Addr × Nat × Nat × List Nat)} {b : Nat} {B B' : Option Addr} {m k m' k' : Nat} (s : Fs w (p ++ (b, .slice B m k, .slice B' m' k') :: q) l W) (hb : w.heap.size ≤ b) (hne : ∀ x ∈ p ++ q, x.1 ≠ b) (u' v' : Value) :
    Fs w (p ++ (b, u', v') :: q) l ((W.setCell ⟨b, 0, none⟩ u').setCell ⟨b, 1, none⟩ v') := by
  obtain ⟨h1, h2⟩ := cels_app.1 s.cel
  obtain ⟨⟨c0, c1, m0, m1, sz⟩, h3⟩ := h2
  refine ⟨s.lie.set2 c0 c1 _ _, cels_app.2 ⟨cels_keep _ _ (fun x hx => hne x (by simp [hx])) h1, ⟨⟨?_, ?_, (World.frozen?_setCell _ _ _ _).trans ((World.frozen?_setCell _ _ _ _).trans m0), (World.frozen?_setCell _ _ _ _).trans ((World.frozen?_setCell _ _ _ _).trans m1), by simpa using sz⟩, cels_keep _ _ (fun x hx => hne x (by simp [hx])) h3⟩⟩, (s.bl.setCell hb _).setCell hb _⟩
  · rw [World.cell?_setCell_other _ _ _ _ (by simp)]
    exact World.cell?_setCell_same _ _ _ c0
  · exact World.cell?_setCell_same _ _ _ ((World.cell?_setCell_other _ _ _ _ (by simp)).trans c1)
end Go.Proofs.YtdnikdocfbbkkaaDoor
namespace Go.Proofs.YtdnikdocfbbkkaaDoor
open Go.RowKit
set_option linter.unusedVariables false
set_option linter.unusedSimpArgs false

/-- A fraction that stands for the bits b, not to be reduced. -/
structure Of2 (b x y : Nat) : Prop where
  g : x * pw 1074 = fv b * y
  y0 : y ≠ 0
  lx : ln x ≤ 33
  ly : ln y ≤ 34
theorem Of1.two {b x y : Nat} (h : Of1 b x y) : Of2 b x y := ⟨h.g, h.y0, h.lx, h.ly⟩
theorem of2_inf : Of2 9218868437227405312 (pw 1024) 1 := ⟨by rw [fv_inf, Nat.mul_one], by decide, ln_pw (by decide), Nat.le_trans (ln_le (k := 1) (by rw [B_eq]; decide)) (by decide)⟩
theorem ln_mid {xa ya xb yb b b' : Nat} (h : Of2 b xa ya) (k : Of2 b' xb yb) : ln (xa * yb + xb * ya) ≤ 68 ∧ ln (ya * yb * 2) ≤ 69 := by
  refine ⟨Nat.le_trans (ln_add (ln_mul h.lx k.ly) (Nat.le_trans (ln_mul k.lx h.ly) (Nat.le_refl _))) (by decide), Nat.le_trans (ln_mul (ln_mul h.ly k.ly) (ln_le (k := 1) (by rw [B_eq]; decide))) (by decide)⟩
set_option maxHeartbeats 4000000 in
set_option maxRecDepth 100000 in
theorem mid_in {n xa ya xb yb : Nat} (ha : Of2 n xa ya) (hb : Of2 (n + 1) xb yb) (hn : n < 9218868437227405311) (K1 : ∀ w, Calls Tryd.prog 58 #[.float .f64 n] w fun e w' => RetR xa ya w e w') (K2 : ∀ w, Calls Tryd.prog 58 #[.float .f64 (n + 1)] w fun e w' => RetR xb yb w e w') (w : World) : Calls Tryd.prog 100 #[.int .u64 (n : Int)] w fun e w' => RetR (xa * yb + xb * ya) (ya * yb * 2) w e w' := by
  have K1 := Lib.hid K1
  have K2 := Lib.hid K2
  have KT := Lib.hid (two_any 1024 (by decide))
  have hc : (n : Int) < 9218868437227405311 := by omega
  have la := ha.lx; have lb := ha.ly; have lc := hb.lx; have ld := hb.ly
  have KX : Hid (∀ (W : World) (G J : Option Addr) (g i j t : Nat), Lim W G g i (limbs xa) → Lim W J j t (limbs yb) → Calls Tryd.prog 22 #[.slice G g i, .slice J j t] W fun e w' => RetN (xa * yb) W e w') := fun W G J g i j t h h' => rmulL h h' (by omega) (by omega)
  have KY : Hid (∀ (W : World) (G J : Option Addr) (g i j t : Nat), Lim W G g i (limbs xb) → Lim W J j t (limbs ya) → Calls Tryd.prog 22 #[.slice G g i, .slice J j t] W fun e w' => RetN (xb * ya) W e w') := fun W G J g i j t h h' => rmulL h h' (by omega) (by omega)
  have KZ : Hid (∀ (W : World) (G J : Option Addr) (g i j t : Nat), Lim W G g i (limbs (xa * yb)) → Lim W J j t (limbs (xb * ya)) → Calls Tryd.prog 20 #[.slice G g i, .slice J j t] W fun e w' => RetN (xa * yb + xb * ya) W e w') := fun W G J g i j t h h' => raddL h h' (Nat.le_trans (ln_mul la ld) (by decide)) (Nat.le_trans (ln_mul lc lb) (by decide))
  have KV : Hid (∀ (W : World) (G J : Option Addr) (g i j t : Nat), Lim W G g i (limbs ya) → Lim W J j t (limbs yb) → Calls Tryd.prog 22 #[.slice G g i, .slice J j t] W fun e w' => RetN (ya * yb) W e w') := fun W G J g i j t h h' => rmulL h h' (by omega) (by omega)
  have KU : Hid (∀ (W : World) (G J : Option Addr) (g i j t : Nat), Lim W G g i (limbs (ya * yb)) → Lim W J j t (limbs 2) → Calls Tryd.prog 22 #[.slice G g i, .slice J j t] W fun e w' => RetN (ya * yb * 2) W e w') := fun W G J g i j t h h' => rmulL h h' (Nat.le_trans (ln_mul lb ld) (by decide)) (Nat.le_trans (ln_le (k := 1) (by rw [B_eq]; decide)) (by decide))
  have S := (Fs.start w).box (.slice none 0 0) (.slice none 0 0)
  clear ha hb la lb lc ld hn
  go_enter Tryd.func100, Tryd.ntmps100
  go_wp2_with (simp only [ffrom n])
  generalize w.alloc (.cells #[.slice none 0 0, .slice none 0 0] 50) = w0 at *
  refine (K1.out _).mono ?_
  rintro e z1 ⟨A1, n1, c1, A2, n2, c2, rfl, M1, M2, B1⟩
  have S := ((S.next B1).put M1).put M2
  clear M1 M2 B1 K1
  have hg1 := S.cel.1.2.2.2.2
  have S := S.box (.slice A1 n1 c1) (.slice A2 n2 c2)
  go_wp2_with fail
  generalize z1.alloc (.cells #[.slice A1 n1 c1, .slice A2 n2 c2] 50) = v1 at *
  have hs1 := S.cel.1.2.2.2.2
  generalize z1.heap.size = g1 at *
  refine (KT.out _).mono ?_
  rintro e z2 ⟨A3, n3, c3, rfl, M1, B1⟩
  have S := (S.next B1).put M1
  clear M1 B1 KT
  have hg2 := S.cel.1.2.2.2.2
  have S := (S.alloc (.cells #[.int .u32 1] 37)).put (lim_1 z2)
  have S := S.box (.slice A3 n3 c3) (.slice (some ⟨z2.heap.size, 0, none⟩) 1 1)
  simp only [World.size_alloc] at S
  have e1 : (n : Int) + 1 = ((n + 1 : Nat) : Int) := by omega
  have F1 := fun W => ffrom (n + 1) W
  simp only [Int.natCast_add, Int.natCast_one] at F1
  clear e1
  go_wp2_with (simp only [F1])
  generalize (z2.alloc (.cells #[.int .u32 1] 37)).alloc (.cells #[.slice A3 n3 c3, .slice (some ⟨z2.heap.size, 0, none⟩) 1 1] 50) = v2 at *
  generalize z2.heap.size = gz at *
  refine (K2.out _).mono ?_
  rintro e z4 ⟨A5, n5, c5, A6, n6, c6, rfl, M1, M2, B1⟩
  have S := ((S.next B1).put M1).put M2
  clear M1 M2 B1 K2
  obtain ⟨⟨t0, t1, t2, t3, t4⟩, -⟩ := S.cel
  go_upto_region 5 with fail
  have S := Fs.set (p := []) S (by omega) (by simp; omega) (.slice A5 n5 c5) (.slice A6 n6 c6)
  simp only [List.nil_append] at S
  clear t0 t1 t2 t3 t4
  generalize (z4.setCell ⟨gz + 1, 0, none⟩ (.slice A5 n5 c5)).setCell ⟨gz + 1, 1, none⟩ (.slice A6 n6 c6) = v2 at *
  obtain ⟨⟨b0, b1, -⟩, ⟨a0, a1, -⟩, -⟩ := S.cel
  have CC := Lib.hid (fun (W : World) (hb : Below _ _ W) => (⟨keep_cell hb a0, keep_cell hb a1, keep_cell hb b0, keep_cell hb b1⟩ : W.cell? ⟨g1, 0, none⟩ = some (.slice A1 n1 c1) ∧ W.cell? ⟨g1, 1, none⟩ = some (.slice A2 n2 c2) ∧ W.cell? ⟨gz + 1, 0, none⟩ = some (.slice A5 n5 c5) ∧ W.cell? ⟨gz + 1, 1, none⟩ = some (.slice A6 n6 c6)))
  have KX := Lib.hid (fun (W : World) (hb : Below _ _ W) => KX.out W _ _ _ _ _ _ (S.lie.2.2.2.2.2.1.next hb) (S.lie.1.next hb))
  have KY := Lib.hid (fun (W : World) (hb : Below _ _ W) => KY.out W _ _ _ _ _ _ (S.lie.2.1.next hb) (S.lie.2.2.2.2.1.next hb))
  have SS := Lib.hid S
  clear a0 a1 b0 b1 S
  go_region_held3 (fun W => W.cell? ⟨g1, 0, none⟩ = some (.slice A1 n1 c1) ∧ W.cell? ⟨g1, 1, none⟩ = some (.slice A2 n2 c2) ∧ W.cell? ⟨gz + 1, 0, none⟩ = some (.slice A5 n5 c5) ∧ W.cell? ⟨gz + 1, 1, none⟩ = some (.slice A6 n6 c6))
    ((refine CC.out _ ?_; repeat (first | with_reducible exact Below.refl _ _ | with_reducible exact (Below.refl _ _).drew | refine below_step ?_ (by assumption))))
    (first
      | (go_at_call 22; (with_reducible refine (KX.out _ ?_).mono ?_); (· repeat (first | with_reducible exact Below.refl _ _ | with_reducible exact (Below.refl _ _).drew | refine below_step ?_ (by assumption))); rintro e q1 ⟨E1, e1, d1, rfl, L1, B1⟩)
      | (go_at_call 22; (with_reducible refine (KY.out _ ?_).mono ?_); (· repeat (first | with_reducible exact Below.refl _ _ | with_reducible exact (Below.refl _ _).drew | refine below_step ?_ (by assumption))); rintro e q2 ⟨E2, e2, d2, rfl, L2, B2⟩)
      | (go_at_call 20; refine (KZ.out _ _ _ _ _ _ _ ?_ ?_).mono ?_; (· repeat (first | assumption | refine Lim.next ?_ (by assumption))); (· repeat (first | assumption | refine Lim.next ?_ (by assumption))); rintro e q3 ⟨E3, e3, d3, rfl, L3, B3⟩))
  have S := (((SS.out.drew.next B1).next B2).next B3).put L3
  clear L1 L2 L3 B1 B2 B3 CC SS KX KY KZ
  obtain ⟨⟨b0, b1, -⟩, ⟨a0, a1, -⟩, -⟩ := S.cel
  go_wp2_with fail
  refine (KV.out _ _ _ _ _ _ _ S.lie.2.2.2.2.2.1 S.lie.2.1).mono ?_
  clear KV a0 a1 b0 b1
  rintro e q4 ⟨E4, e4, d4, rfl, L4, B4⟩
  have S := (S.next B4).put L4
  clear L4 B4
  go_wp2_with fail
  have L2 := lim_one q4 2 (by decide) (by decide)
  have S := S.alloc (.cells #[.int .u32 2] 37)
  refine (KU.out _ _ _ _ _ _ _ S.lie.1 L2).mono ?_
  rintro e q5 ⟨E5, e5, d5, rfl, L5, B5⟩
  have S := (S.next B5).put L5
  clear L5 B5 L2 KU
  obtain ⟨-, -, ⟨r0, r1, q0, q1', rz⟩, -⟩ := S.cel
  go_wp2_with fail
  go_light
  exact bodyPost_ret (v := .agg #[.slice E3 e3 d3, .slice E5 e5 d5]) (by simp [results, Tryd.results100, go_sem, r0, r1]) rfl ⟨_, _, _, _, _, _, rfl, S.lie.2.2.1.put2 r0 r1 _ _, S.lie.1.put2 r0 r1 _ _, (S.bl.setCell (by simp only []; omega) _).setCell (by simp only []; omega) _⟩
set_option maxHeartbeats 4000000 in
set_option maxRecDepth 100000 in
theorem mid_top {n xa ya xb yb : Nat} (ha : Of2 n xa ya) (hb : Of2 (n + 1) xb yb) (hn : n = 9218868437227405311) (ex : xb = pw 1024) (ey : yb = 1) (K1 : ∀ w, Calls Tryd.prog 58 #[.float .f64 n] w fun e w' => RetR xa ya w e w') (w : World) : Calls Tryd.prog 100 #[.int .u64 (n : Int)] w fun e w' => RetR (xa * yb + xb * ya) (ya * yb * 2) w e w' := by
  have K1 := Lib.hid K1
  have KT : Hid (∀ w, Calls Tryd.prog 106 #[.int .i64 1024] w fun e w' => RetN xb w e w') := fun w => ex ▸ two_any 1024 (by decide) w
  have LY : Hid (∀ z : World, Lim (z.alloc (.cells #[.int .u32 1] 37)) (some ⟨z.heap.size, 0, none⟩) 1 1 (limbs yb)) := fun z => ey ▸ lim_1 z
  have hc : decide ((n : Int) < 9218868437227405311) = false := decide_eq_false (by omega)
  have la := ha.lx; have lb := ha.ly; have lc := hb.lx; have ld := hb.ly
  have KX : Hid (∀ (W : World) (G J : Option Addr) (g i j t : Nat), Lim W G g i (limbs xa) → Lim W J j t (limbs yb) → Calls Tryd.prog 22 #[.slice G g i, .slice J j t] W fun e w' => RetN (xa * yb) W e w') := fun W G J g i j t h h' => rmulL h h' (by omega) (by omega)
  have KY : Hid (∀ (W : World) (G J : Option Addr) (g i j t : Nat), Lim W G g i (limbs xb) → Lim W J j t (limbs ya) → Calls Tryd.prog 22 #[.slice G g i, .slice J j t] W fun e w' => RetN (xb * ya) W e w') := fun W G J g i j t h h' => rmulL h h' (by omega) (by omega)
  have KZ : Hid (∀ (W : World) (G J : Option Addr) (g i j t : Nat), Lim W G g i (limbs (xa * yb)) → Lim W J j t (limbs (xb * ya)) → Calls Tryd.prog 20 #[.slice G g i, .slice J j t] W fun e w' => RetN (xa * yb + xb * ya) W e w') := fun W G J g i j t h h' => raddL h h' (Nat.le_trans (ln_mul la ld) (by decide)) (Nat.le_trans (ln_mul lc lb) (by decide))
  have KV : Hid (∀ (W : World) (G J : Option Addr) (g i j t : Nat), Lim W G g i (limbs ya) → Lim W J j t (limbs yb) → Calls Tryd.prog 22 #[.slice G g i, .slice J j t] W fun e w' => RetN (ya * yb) W e w') := fun W G J g i j t h h' => rmulL h h' (by omega) (by omega)
  have KU : Hid (∀ (W : World) (G J : Option Addr) (g i j t : Nat), Lim W G g i (limbs (ya * yb)) → Lim W J j t (limbs 2) → Calls Tryd.prog 22 #[.slice G g i, .slice J j t] W fun e w' => RetN (ya * yb * 2) W e w') := fun W G J g i j t h h' => rmulL h h' (Nat.le_trans (ln_mul lb ld) (by decide)) (Nat.le_trans (ln_le (k := 1) (by rw [B_eq]; decide)) (by decide))
  have S := (Fs.start w).box (.slice none 0 0) (.slice none 0 0)
  clear hn ex ey
  clear ha hb la lb lc ld
  go_enter Tryd.func100, Tryd.ntmps100
  go_wp2_with (simp only [ffrom n])
  generalize w.alloc (.cells #[.slice none 0 0, .slice none 0 0] 50) = w0 at *
  refine (K1.out _).mono ?_
  rintro e z1 ⟨A1, n1, c1, A2, n2, c2, rfl, M1, M2, B1⟩
  have S := ((S.next B1).put M1).put M2
  clear M1 M2 B1 K1
  have hg1 := S.cel.1.2.2.2.2
  have S := S.box (.slice A1 n1 c1) (.slice A2 n2 c2)
  go_wp2_with fail
  generalize z1.alloc (.cells #[.slice A1 n1 c1, .slice A2 n2 c2] 50) = v1 at *
  have hs1 := S.cel.1.2.2.2.2
  generalize z1.heap.size = g1 at *
  refine (KT.out _).mono ?_
  rintro e z2 ⟨A3, n3, c3, rfl, M1, B1⟩
  have S := (S.next B1).put M1
  clear M1 B1 KT
  have hg2 := S.cel.1.2.2.2.2
  have S := (S.alloc (.cells #[.int .u32 1] 37)).put (LY.out z2)
  have S := S.box (.slice A3 n3 c3) (.slice (some ⟨z2.heap.size, 0, none⟩) 1 1)
  simp only [World.size_alloc] at S
  go_upto_region 5 with fail
  generalize (z2.alloc (.cells #[.int .u32 1] 37)).alloc (.cells #[.slice A3 n3 c3, .slice (some ⟨z2.heap.size, 0, none⟩) 1 1] 50) = v2 at *
  generalize z2.heap.size = gz at *
  obtain ⟨⟨b0, b1, -⟩, ⟨a0, a1, -⟩, -⟩ := S.cel
  have CC := Lib.hid (fun (W : World) (hb : Below _ _ W) => (⟨keep_cell hb a0, keep_cell hb a1, keep_cell hb b0, keep_cell hb b1⟩ : W.cell? ⟨g1, 0, none⟩ = some (.slice A1 n1 c1) ∧ W.cell? ⟨g1, 1, none⟩ = some (.slice A2 n2 c2) ∧ W.cell? ⟨gz + 1, 0, none⟩ = some (.slice A3 n3 c3) ∧ W.cell? ⟨gz + 1, 1, none⟩ = some (.slice (some ⟨gz, 0, none⟩) 1 1)))
  have KX := Lib.hid (fun (W : World) (hb : Below _ _ W) => KX.out W _ _ _ _ _ _ (S.lie.2.2.2.1.next hb) (S.lie.1.next hb))
  have KY := Lib.hid (fun (W : World) (hb : Below _ _ W) => KY.out W _ _ _ _ _ _ (S.lie.2.1.next hb) (S.lie.2.2.1.next hb))
  have SS := Lib.hid S
  clear a0 a1 b0 b1 S
  go_region_held3 (fun W => W.cell? ⟨g1, 0, none⟩ = some (.slice A1 n1 c1) ∧ W.cell? ⟨g1, 1, none⟩ = some (.slice A2 n2 c2) ∧ W.cell? ⟨gz + 1, 0, none⟩ = some (.slice A3 n3 c3) ∧ W.cell? ⟨gz + 1, 1, none⟩ = some (.slice (some ⟨gz, 0, none⟩) 1 1))
    ((refine CC.out _ ?_; repeat (first | with_reducible exact Below.refl _ _ | with_reducible exact (Below.refl _ _).drew | refine below_step ?_ (by assumption))))
    (first
      | (go_at_call 22; (with_reducible refine (KX.out _ ?_).mono ?_); (· repeat (first | with_reducible exact Below.refl _ _ | with_reducible exact (Below.refl _ _).drew | refine below_step ?_ (by assumption))); rintro e q1 ⟨E1, e1, d1, rfl, L1, B1⟩)
      | (go_at_call 22; (with_reducible refine (KY.out _ ?_).mono ?_); (· repeat (first | with_reducible exact Below.refl _ _ | with_reducible exact (Below.refl _ _).drew | refine below_step ?_ (by assumption))); rintro e q2 ⟨E2, e2, d2, rfl, L2, B2⟩)
      | (go_at_call 20; refine (KZ.out _ _ _ _ _ _ _ ?_ ?_).mono ?_; (· repeat (first | assumption | refine Lim.next ?_ (by assumption))); (· repeat (first | assumption | refine Lim.next ?_ (by assumption))); rintro e q3 ⟨E3, e3, d3, rfl, L3, B3⟩))
  have S := (((SS.out.drew.next B1).next B2).next B3).put L3
  clear L1 L2 L3 B1 B2 B3 CC SS KX KY KZ
  obtain ⟨⟨b0, b1, -⟩, ⟨a0, a1, -⟩, -⟩ := S.cel
  go_wp2_with fail
  refine (KV.out _ _ _ _ _ _ _ S.lie.2.2.2.1 S.lie.2.1).mono ?_
  clear KV a0 a1 b0 b1
  rintro e q4 ⟨E4, e4, d4, rfl, L4, B4⟩
  have S := (S.next B4).put L4
  clear L4 B4
  go_wp2_with fail
  have L2 := lim_one q4 2 (by decide) (by decide)
  have S := S.alloc (.cells #[.int .u32 2] 37)
  refine (KU.out _ _ _ _ _ _ _ S.lie.1 L2).mono ?_
  rintro e q5 ⟨E5, e5, d5, rfl, L5, B5⟩
  have S := (S.next B5).put L5
  clear L5 B5 L2 KU
  obtain ⟨-, -, ⟨r0, r1, q0, q1', rz⟩, -⟩ := S.cel
  go_wp2_with fail
  go_light
  exact bodyPost_ret (v := .agg #[.slice E3 e3 d3, .slice E5 e5 d5]) (by simp [results, Tryd.results100, go_sem, r0, r1]) rfl ⟨_, _, _, _, _, _, rfl, S.lie.2.2.1.put2 r0 r1 _ _, S.lie.1.put2 r0 r1 _ _, (S.bl.setCell (by simp only []; omega) _).setCell (by simp only []; omega) _⟩
end Go.Proofs.YtdnikdocfbbkkaaDoor
