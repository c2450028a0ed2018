/- The fixed answer of approx's statements. Plain arithmetic: a float64 is no farther from a fraction than its neighbours are; how long the fractions of float64s are. Plain arithmetic for approx's laws: what a float64 is has that float64; twice; the order; neighbours. -/
import Derived.Test.YtdnikdocfbbkkaaDoorJ18
import Derived.WalkLawsBesides
import Derived.Test.YtdnikdocfbbkkaaDoorJ17
namespace Go.Proofs.YtdnikdocfbbkkaaDoor
open Go.RowKit
set_option linter.unusedVariables false
set_option linter.unusedSimpArgs false

set_option maxRecDepth 100000 in
theorem nan_call (w : World) : Calls Tryd.prog 96 #[] w fun e w' => e = .returned (.float .f64 9221120237041090561) ∧ w = w' := by
  have F : ∀ W : World, (callFunc 101 #[.int .u64 9221120237041090561]).run Tryd.prog W = .ok (.value (.float .f64 9221120237041090561)) W := fun W => ffrom 9221120237041090561 W
  go_enter Tryd.func96, Tryd.ntmps96
  go_wp2_with (simp only [F])
  go_ret
  exact ⟨rfl, rfl⟩
set_option maxHeartbeats 4000000 in
set_option maxRecDepth 100000 in
theorem awake4 (K : App) (w : World) : Calls Tryd.prog 52 #[] w fun e w' => e = .returned (.bool true) ∧ Below w.heap.size w w' := by
  have L1 := Lib.hid (fun W : World => lim_one W 1 (by decide) (by decide))
  have L3 := Lib.hid (fun W : World => lim_one W 3 (by decide) (by decide))
  have L5 := Lib.hid (fun W : World => lim_one W 5 (by decide) (by decide))
  have L8 := Lib.hid (fun W : World => lim_one W 8 (by decide) (by decide))
  have KA := Lib.hid K
  obtain ⟨X, Y, o1, KX⟩ := K.ey (x := 4604930618986332160) (r := 4604930618986332160) false (by simp) (by decide) (Or.inl rfl)
  obtain ⟨rfl, rfl⟩ := of34 o1
  have KX := Lib.hid KX
  have KN := Lib.hid (K.en (x := 9221120237041090561) (r := 9221120237041090561) false (by simp) (by decide) (by decide))
  have oo : (FloatKind.f64.format.order 4599676419421066581 4599676419421066581 == some .eq) = true := by
    have := order_rung (a := 4599676419421066581) (b := 4599676419421066581) (by decide) (by decide)
    rw [show FloatKind.f64.format = Ieee.double from rfl, this]; decide
  clear o1 K
  go_enter Tryd.func52, Tryd.ntmps52
  go_wp2_with fail
  have l3 := L3.out (w.alloc (.cells #[.int .u32 1] 37))
  rw [World.size_alloc] at l3
  have KK := KA.out.fl ((L1.out w).alloc (.cells #[.int .u32 3] 37)) l3 f13
  refine KK.mono ?_
  clear KK L1 L3 l3
  rintro e w1 ⟨b, fb, rfl, B1⟩
  obtain rfl := fb.same fl13
  have S := (((Fs.start w).alloc (.cells #[.int .u32 1] 37)).alloc (.cells #[.int .u32 3] 37)).next B1
  clear B1 fb
  go_wp2_with fail
  refine (KX.out _).mono ?_
  rintro e w2 ⟨A1, n1, c1, A2, n2, c2, rfl, M1, M2, B1⟩
  have S := ((S.next B1).put M1).put M2
  clear M1 M2 B1 KX
  have S := S.box (.slice A1 n1 c1) (.slice A2 n2 c2)
  generalize hv2 : w2.alloc (.cells #[.slice A1 n1 c1, .slice A2 n2 c2] 50) = v2 at *
  go_wp2_with fail
  clear hv2
  generalize w2.heap.size = b2 at *
  refine (nan_call _).mono ?_
  rintro e w' ⟨rfl, rfl⟩
  go_wp2_with fail
  refine (KN.out _).mono ?_
  rintro e w3 ⟨A3, n3, c3, A4, n4, c4, rfl, M1, M2, B1⟩
  have S := S.next B1
  clear M1 M2 B1 KN
  have S := S.alloc (.cells #[.slice A3 n3 c3, .slice A4 n4 c4] 50)
  generalize hv3 : w3.alloc (.cells #[.slice A3 n3 c3, .slice A4 n4 c4] 50) = v3 at *
  go_wp2_with fail
  clear hv3
  have l8 := L8.out (v3.alloc (.cells #[.int .u32 5] 37))
  rw [World.size_alloc] at l8
  have KK := KA.out.er ((L5.out v3).alloc (.cells #[.int .u32 8] 37)) l8 f58 fl58 (by decide) of58
  rw [err58] at KK
  refine KK.mono ?_
  clear KK KA L5 L8 l8
  rintro e w4 ⟨A5, n5, c5, A6, n6, c6, rfl, M1, M2, B1⟩
  have S := ((((S.alloc (.cells #[.int .u32 5] 37)).alloc (.cells #[.int .u32 8] 37)).next B1).put M1).put M2
  clear M1 M2 B1
  have S := S.box (.slice A5 n5 c5) (.slice A6 n6 c6)
  generalize hv4 : w4.alloc (.cells #[.slice A5 n5 c5, .slice A6 n6 c6] 50) = v4 at *
  obtain ⟨⟨d0, d1, -⟩, ⟨h0, h1, -⟩, -⟩ := S.cel
  go_wp2_with fail
  clear hv4 d0 d1 h0 h1
  generalize w4.heap.size = b4 at *
  have KK := ratText_yes S.lie.2.2.2.1 S.lie.2.2.1 f34
  rw [text34] at KK
  refine KK.mono ?_
  clear KK
  rintro e w5 ⟨rfl, B1⟩
  have S := S.next B1
  clear B1
  obtain ⟨⟨d0, d1, -⟩, ⟨h0, h1, -⟩, -⟩ := S.cel
  go_wp2_with fail
  have KK := ratText_yes S.lie.2.1 S.lie.1 f01
  rw [text_z] at KK
  refine KK.mono ?_
  clear KK d0 d1 h0 h1
  rintro e w6 ⟨rfl, B1⟩
  have S := S.next B1
  clear B1
  go_wp2_with fail
  go_ret
  exact ⟨rfl, S.bl⟩
end Go.Proofs.YtdnikdocfbbkkaaDoor
namespace Go.Proofs.YtdnikdocfbbkkaaDoor
set_option linter.unusedVariables false
set_option linter.unusedSimpArgs false

/-- How far two numbers are from each other. -/
@[irreducible] def dist (x y : Nat) : Nat := (x - y) + (y - x)
theorem dist_le {x y : Nat} (h : y ≤ x) : dist x y = x - y := by unfold dist; omega
theorem dist_ge {x y : Nat} (h : x ≤ y) : dist x y = y - x := by unfold dist; omega
theorem dist_mul (x y k : Nat) : dist (x * k) (y * k) = dist x y * k := by
  rcases Nat.le_total y x with h | h
  · rw [dist_le h, dist_le (Nat.mul_le_mul_right k h), Nat.sub_mul]
  · rw [dist_ge h, dist_ge (Nat.mul_le_mul_right k h), Nat.sub_mul]
theorem Fl.upper {p q b : Nat} (h : Fl p q b) (lt : b < 9218868437227405312) : p * (2 * pw 1074) ≤ q * (fv b + fv (b + 1)) := by
  rcases h.hi lt with k | k
  · exact Nat.le_of_lt k
  · exact Nat.le_of_eq k.1
theorem Fl.lower {p q b : Nat} (h : Fl p q (b + 1)) : q * (fv b + fv (b + 1)) ≤ p * (2 * pw 1074) :=
  Nat.le_of_not_lt fun k => h.lo b (Nat.lt_succ_self b) (Or.inl k)
theorem near_up {p q b : Nat} (h : Fl p q b) (lt : b < 9218868437227405312) : dist (p * pw 1074) (q * fv b) ≤ dist (p * pw 1074) (q * fv (b + 1)) := by
  have h1 := h.upper lt
  have h2 : q * fv b ≤ q * fv (b + 1) := Nat.mul_le_mul_left _ (fv_le (by omega))
  rw [show p * (2 * pw 1074) = 2 * (p * pw 1074) by generalize pw 1074 = t; grind, Nat.mul_add] at h1
  generalize p * pw 1074 = a at *
  generalize q * fv b = f at *
  generalize q * fv (b + 1) = n at *
  unfold dist; omega
theorem near_down {p q b : Nat} (h : Fl p q (b + 1)) : dist (p * pw 1074) (q * fv (b + 1)) ≤ dist (p * pw 1074) (q * fv b) := by
  have h1 := h.lower
  have h2 : q * fv b ≤ q * fv (b + 1) := Nat.mul_le_mul_left _ (fv_le (by omega))
  rw [show p * (2 * pw 1074) = 2 * (p * pw 1074) by generalize pw 1074 = t; grind, Nat.mul_add] at h1
  generalize p * pw 1074 = a at *
  generalize q * fv b = f at *
  generalize q * fv (b + 1) = n at *
  unfold dist; omega
/-- The same of the fractions that the float64s are. -/
theorem near_cross {p q b n X Y X' Y' : Nat} (g : X * pw 1074 = fv b * Y) (g' : X' * pw 1074 = fv n * Y') (h : dist (p * pw 1074) (q * fv b) ≤ dist (p * pw 1074) (q * fv n)) : dist (p * Y) (X * q) * Y' ≤ dist (p * Y') (X' * q) * Y := by
  have T := pw_pos 1074
  refine Nat.le_of_mul_le_mul_right (c := pw 1074) ?_ T
  have e1 : dist (p * Y) (X * q) * pw 1074 = dist (p * pw 1074) (q * fv b) * Y := by
    rw [← dist_mul, ← dist_mul, show p * Y * pw 1074 = p * pw 1074 * Y by generalize pw 1074 = t; grind, show X * q * pw 1074 = X * pw 1074 * q by generalize pw 1074 = t; grind, g, show fv b * Y * q = q * fv b * Y by grind]
  have e2 : dist (p * Y') (X' * q) * pw 1074 = dist (p * pw 1074) (q * fv n) * Y' := by
    rw [← dist_mul, ← dist_mul, show p * Y' * pw 1074 = p * pw 1074 * Y' by generalize pw 1074 = t; grind, show X' * q * pw 1074 = X' * pw 1074 * q by generalize pw 1074 = t; grind, g', show fv n * Y' * q = q * fv n * Y' by grind]
  rw [show dist (p * Y) (X * q) * Y' * pw 1074 = dist (p * Y) (X * q) * pw 1074 * Y' by generalize pw 1074 = t; grind, show dist (p * Y') (X' * q) * Y * pw 1074 = dist (p * Y') (X' * q) * pw 1074 * Y by generalize pw 1074 = t; grind, e1, e2]
  generalize dist (p * pw 1074) (q * fv b) = u at *
  generalize dist (p * pw 1074) (q * fv n) = v at *
  rw [show u * Y * Y' = u * (Y * Y') by grind, show v * Y' * Y = v * (Y * Y') by grind]
  exact Nat.mul_le_mul_right _ h
theorem lt_pw_of_ln {a k : Nat} (h : ln a ≤ k) : a < pw (32 * k) := by
  rw [pw_eq, Nat.pow_mul, show (2 : Nat) ^ 32 = B by rw [B_eq]]
  exact Nat.lt_of_lt_of_le (lt_ln a) (Nat.pow_le_pow_right B_pos h)
theorem fv_top (e : Nat) : fv ((e + 1) * 4503599627370496) = pw (52 + e) := by
  have e1 : ((e + 1) * 4503599627370496) / 4503599627370496 = e + 1 := by omega
  have e2 : ((e + 1) * 4503599627370496) % 4503599627370496 = 0 := by omega
  rw [fv_high (by omega), e1, e2, Nat.zero_add, Nat.add_sub_cancel, show (4503599627370496 : Nat) = pw 52 by rw [pw_eq], ← pw_add]
/-- A fraction of at most 8 limbs that is not 0 has bits of at least 2^-256 .. -/
theorem low_bits {p q b : Nat} (p0 : p ≠ 0) (q0 : q ≠ 0) (lq : ln q ≤ 8) (h : Fl p q b) : 767 * 4503599627370496 ≤ b := by
  have k : Fl 1 (pw 256) (767 * 4503599627370496) := fl_exact (Nat.ne_of_gt (pw_pos _)) (by rw [Nat.one_mul, fv_top 766, ← pw_add]) (by decide)
  refine k.mono (Nat.ne_of_gt (pw_pos _)) q0 ?_ h
  have h1 := lt_pw_of_ln lq
  rw [Nat.one_mul]
  exact Nat.le_trans (Nat.le_of_lt h1) (Nat.le_mul_of_pos_left _ (Nat.pos_of_ne_zero p0))
/-- .. and at most 2^256. -/
theorem high_bits {p q b : Nat} (q0 : q ≠ 0) (lp : ln p ≤ 8) (h : Fl p q b) : b ≤ 1279 * 4503599627370496 := by
  have k : Fl (pw 256) 1 (1279 * 4503599627370496) := fl_exact (by decide) (by rw [Nat.mul_one, fv_top 1278, ← pw_add]) (by decide)
  refine h.mono q0 (by decide) ?_ k
  have h1 := lt_pw_of_ln lp
  rw [Nat.mul_one]
  exact Nat.le_trans (Nat.le_of_lt h1) (Nat.le_mul_of_pos_right _ (Nat.pos_of_ne_zero q0))
/-- How long the fraction is, then. -/
theorem Of1.short {b X Y : Nat} (h : Of1 b X Y) (lo : 766 * 4503599627370496 ≤ b) (hi : b ≤ 1280 * 4503599627370496) : ln X ≤ 9 ∧ ln Y ≤ 10 := by
  have nz : b / 4503599627370496 ≠ 0 := by omega
  have x1 : 766 ≤ ex b ∧ ex b ≤ 1280 := by rw [ex_high nz]; omega
  have e := h.eq
  by_cases c : ex b < 1075
  · obtain ⟨g, a, d, g0, e1, e2, er, d0, co, l1, l2⟩ := red_get (mant b) (pw (1075 - ex b)) (Nat.ne_of_gt (pw_pos _))
    rw [of_low c, er] at e
    injection e with u v
    injection v with v v'
    subst u v
    exact ⟨Nat.le_trans l1 (Nat.le_trans (ln_mant b) (by decide)), Nat.le_trans l2 (ln_pw (by omega))⟩
  · rw [of_high (by omega)] at e
    injection e with u v
    injection v with v v'
    subst u v
    exact ⟨Nat.le_trans (ln_mul (ln_mant b) (ln_pw (k := 7) (by omega))) (by decide), Nat.le_trans (ln_le (k := 1) (by rw [B_eq]; decide)) (by decide)⟩
end Go.Proofs.YtdnikdocfbbkkaaDoor
namespace Go.Proofs.YtdnikdocfbbkkaaDoor
set_option linter.unusedVariables false
set_option linter.unusedSimpArgs false

theorem sgn_nonneg' {a b : Nat} (h : b ≤ a) : 0 ≤ sgn a b := by
  rcases Nat.lt_or_eq_of_le h with k | k
  · rw [sgn_gt k]; decide
  · rw [k, sgn_eq]; decide
theorem ln_one : ln 1 ≤ 1 := ln_le (k := 1) (by rw [B_eq]; decide)
theorem Of1.thin {b X Y : Nat} (h : Of1 b X Y) : ln X + ln Y ≤ 36 := by
  have e := h.eq
  by_cases c : ex b < 1075
  · obtain ⟨g, a, d, g0, e1, e2, er, d0, co, l1, l2⟩ := red_get (mant b) (pw (1075 - ex b)) (Nat.ne_of_gt (pw_pos _))
    rw [of_low c, er] at e
    injection e with u v
    injection v with v v'
    subst u v
    have := Nat.le_trans l1 (ln_mant b)
    have := h.ly
    omega
  · rw [of_high (by omega)] at e
    injection e with u v
    injection v with v v'
    subst u v
    have := h.lx
    have := ln_one
    omega
theorem Of1.fl {b X Y : Nat} (h : Of1 b X Y) (lt : b < 9218868437227405312) : Fl X Y b := fl_exact h.y0 h.g lt
theorem Of1.err {b X Y : Nat} (h : Of1 b X Y) : errR X Y X Y = (0, 1, 0) := by
  have l := ln_mul (Nat.le_refl (ln X)) (Nat.le_refl (ln Y))
  have := h.thin
  exact errR_same (cmpE_yes (by omega) (by omega)) (by rw [cmpN_yes (by omega) (by omega)]; exact sgn_eq _)
theorem Of1.same {b X Y X' Y' : Nat} (h : Of1 b X Y) (h' : Of1 b X' Y') : X = X' ∧ Y = Y' := by
  have e := h.eq
  rw [h'.eq] at e
  injection e with a b
  injection b with b c
  exact ⟨a.symm, b.symm⟩
theorem Is.weak {a b x y m n m' n' : Nat} (h : Is a b x y m n) (hm : m ≤ m') (hn : n ≤ n') : Is a b x y m' n' := ⟨h.eq, h.g, h.y0, h.co, Nat.le_trans h.la hm, Nat.le_trans h.lb hn⟩
/-- The fractions are of one number: their float64s are the same. -/
theorem Fl.equal {p q p' q' b b' : Nat} (q0 : q ≠ 0) (q0' : q' ≠ 0) (e : p * q' = p' * q) (h : Fl p q b) (h' : Fl p' q' b') : b = b' :=
  Nat.le_antisymm (h.mono q0 q0' (Nat.le_of_eq e) h') (h'.mono q0' q0 (Nat.le_of_eq e.symm) h)
theorem fq_zero {q : Nat} (h : Fq 0 q) : q = 1 := by have := h.co; rwa [Nat.gcd_zero_left] at this
/-- Twice a fraction. -/
theorem twice_num {p q : Nat} (f : Fq p q) (lp : ln p ≤ 8) (lq : ln q ≤ 8) : ∃ P Q, addR p q p q = (P, Q, 0) ∧ Fq P Q ∧ ∀ b b' : Nat, Fl p q b → Fl P Q b' → b ≤ 9218868437227405311 ∧ b' ≤ 9218868437227405311 ∧ Ieee.double.mul 4611686018427387904 b = some b' := by
  obtain ⟨P, Q, e, i⟩ := (Is.self f lp lq).add (Is.self f lp lq) (by decide) (by decide) (by decide)
  refine ⟨P, Q, e, i.fq (by decide) (by decide), fun b b' h h' => ?_⟩
  obtain ⟨g, g0, e1, e2⟩ := i.g
  have key : 2 * p * Q = P * q := by
    refine Nat.eq_of_mul_eq_mul_left (Nat.pos_of_ne_zero g0) ?_
    have : g * (2 * p * Q) = 2 * p * (g * Q) := by grind
    rw [this, ← e2]
    have : g * (P * q) = (g * P) * q := by grind
    rw [this, ← e1]; grind
  by_cases z : p = 0
  · subst z
    have b0 := h.same (fl_zero f.q0)
    have P0 : P = 0 := by
      rcases Nat.eq_zero_or_pos P with z | z
      · exact z
      · have := Nat.mul_pos z (Nat.pos_of_ne_zero f.q0)
        rw [← key] at this; simp at this
    subst P0
    have b1 := h'.same (fl_zero i.b0)
    subst b0 b1
    exact ⟨by decide, by decide, by decide⟩
  · have l1 := low_bits z f.q0 lq h
    have l2 := high_bits f.q0 lp h
    have d := Fl.double f.q0 (by omega) (by omega) h
    have := d.equal f.q0 i.b0 key h'
    subst this
    exact ⟨by omega, by omega, mul_two (by omega) (by omega)⟩
/-- How far two fractions are from each other, by layer 3. -/
theorem abs_num {p q X Y a a' x y M N : Nat} (f : Fq p q) (g : Fq X Y) (lp : ln p ≤ a) (lq : ln q ≤ a') (lX : ln X ≤ x) (lY : ln Y ≤ y) (h1 : a + y ≤ M) (h2 : x + a' ≤ M) (h3 : a' + y ≤ N) (hM : M ≤ 64) (hN : N ≤ 64) :
    ∃ d1 d2, Is d1 d2 (dist (p * Y) (X * q)) (q * Y) M N ∧ ((subR p q X Y = (d1, d2, 0) ∧ X * q ≤ p * Y) ∨ (subR p q X Y = (0, 0, 1) ∧ subR X Y p q = (d1, d2, 0) ∧ p * Y < X * q)) := by
  rcases Nat.lt_or_ge (p * Y) (X * q) with lt | le
  · have low := (Is.self f lp lq).low (Is.self g lX lY) (by omega) (by omega) (by omega) lt
    obtain ⟨d1, d2, e, i⟩ := (Is.self g lX lY).sub (Is.self f lp lq) (by omega) (by omega) (by omega) (Nat.le_of_lt lt)
    refine ⟨d1, d2, ?_, Or.inr ⟨low, e, lt⟩⟩
    rw [dist_ge (Nat.le_of_lt lt), Nat.mul_comm q Y]
    exact i.weak (by omega) (by omega)
  · obtain ⟨d1, d2, e, i⟩ := (Is.self f lp lq).sub (Is.self g lX lY) (by omega) (by omega) (by omega) le
    refine ⟨d1, d2, ?_, Or.inl ⟨e, le⟩⟩
    rw [dist_le le]
    exact i.weak (by omega) (by omega)
theorem err_num {p q X Y a a' x y M N : Nat} (f : Fq p q) (g : Fq X Y) (lp : ln p ≤ a) (lq : ln q ≤ a') (lX : ln X ≤ x) (lY : ln Y ≤ y) (h1 : a + y ≤ M) (h2 : x + a' ≤ M) (h3 : a' + y ≤ N) (hM : M ≤ 64) (hN : N ≤ 64) :
    ∃ d1 d2, Is d1 d2 (dist (p * Y) (X * q)) (q * Y) M N ∧ errR p q X Y = (d1, d2, 0) := by
  obtain ⟨d1, d2, i, h⟩ := abs_num f g lp lq lX lY h1 h2 h3 hM hN
  refine ⟨d1, d2, i, ?_⟩
  have l1 := Nat.le_trans (ln_mul lp lY) (by omega : a + y ≤ 64)
  have l2 := Nat.le_trans (ln_mul lX lq) (by omega : x + a' ≤ 64)
  unfold errR
  rw [if_pos (cmpE_yes l1 l2), cmpN_yes l1 l2]
  rcases h with ⟨e, le⟩ | ⟨-, e, lt⟩
  · rcases Nat.lt_or_eq_of_le le with lt | eq
    · rw [sgn_gt lt, if_neg (by decide), if_neg (by decide), e]
    · rw [eq, sgn_eq, if_pos rfl]
      have k := i.eq
      rw [eq, show dist (p * Y) (p * Y) = 0 by unfold dist; omega] at k
      rw [← k]
      have y0 := i.y0
      unfold red
      rw [Nat.gcd_zero_left, Nat.zero_div, Nat.div_self (Nat.pos_of_ne_zero y0)]
  · rw [sgn_lt lt, if_neg (by decide), if_pos (by decide), e]
/-- A float64's neighbour is no nearer, by layer 3. -/
theorem near_num {p q b nb X Y X' Y' a a' x y x' y' M N M' N' : Nat} (f : Fq p q) (o : Of1 b X Y) (o' : Of1 nb X' Y') (lp : ln p ≤ a) (lq : ln q ≤ a') (lX : ln X ≤ x) (lY : ln Y ≤ y) (lX' : ln X' ≤ x') (lY' : ln Y' ≤ y')
    (h1 : a + y ≤ M) (h2 : x + a' ≤ M) (h3 : a' + y ≤ N) (hM : M ≤ 64) (hN : N ≤ 64) (h1' : a + y' ≤ M') (h2' : x' + a' ≤ M') (h3' : a' + y' ≤ N') (hM' : M' ≤ 64) (hN' : N' ≤ 64) (s1 : M' + N ≤ 64) (s2 : M + N' ≤ 64)
    (h : dist (p * pw 1074) (q * fv b) ≤ dist (p * pw 1074) (q * fv nb)) :
    ∃ d1 d2 c1 c2, errR p q X Y = (d1, d2, 0) ∧ Fq d1 d2 ∧ Fq c1 c2 ∧ (subR p q X' Y' = (c1, c2, 0) ∨ (subR p q X' Y' = (0, 0, 1) ∧ subR X' Y' p q = (c1, c2, 0))) ∧ cmpE c1 c2 d1 d2 = 0 ∧ 0 ≤ cmpN c1 c2 d1 d2 := by
  obtain ⟨d1, d2, i, e⟩ := err_num f o.fq lp lq lX lY h1 h2 h3 hM hN
  obtain ⟨c1, c2, j, e'⟩ := abs_num f o'.fq lp lq lX' lY' h1' h2' h3' hM' hN'
  obtain ⟨k1, k2⟩ := j.cmp i s1 s2
  refine ⟨d1, d2, c1, c2, e, i.fq hM hN, j.fq hM' hN', ?_, k2, ?_⟩
  · rcases e' with e' | e'
    · exact Or.inl e'.1
    · exact Or.inr ⟨e'.1, e'.2.1⟩
  · rw [k1]
    refine sgn_nonneg' ?_
    have := near_cross o.g o'.g h
    have := Nat.mul_le_mul_left q this
    rw [show dist (p * Y) (X * q) * (q * Y') = q * (dist (p * Y) (X * q) * Y') by grind, show dist (p * Y') (X' * q) * (q * Y) = q * (dist (p * Y') (X' * q) * Y) by grind]
    exact this
end Go.Proofs.YtdnikdocfbbkkaaDoor
