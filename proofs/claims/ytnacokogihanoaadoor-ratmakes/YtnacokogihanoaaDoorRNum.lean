/- Plain arithmetic of fractions: what is reduced, and what the laws of rat ask. -/
import Derived.Test.YtnacokogihanoaaDoorRD
namespace Go.Proofs.YtnacokogihanoaaDoor
set_option linter.unusedVariables false

theorem red_scale {k x y : Nat} (hk : k ≠ 0) : red (k * x) (k * y) = red x y := by
  unfold red
  rw [Nat.gcd_mul_left, Nat.mul_div_mul_left _ _ (Nat.pos_of_ne_zero hk), Nat.mul_div_mul_left _ _ (Nat.pos_of_ne_zero hk)]
theorem red_self {p q : Nat} (h : Nat.gcd p q = 1) : red p q = (p, q, 0) := by
  unfold red
  rw [h, Nat.div_one, Nat.div_one]
/-- What is reduced, in letters. -/
theorem red_get (x y : Nat) (y0 : y ≠ 0) : ∃ g a b, g ≠ 0 ∧ x = g * a ∧ y = g * b ∧ red x y = (a, b, 0) ∧ b ≠ 0 ∧ Nat.gcd a b = 1 ∧ ln a ≤ ln x ∧ ln b ≤ ln y := by
  have hg : Nat.gcd x y ≠ 0 := fun z => y0 (Nat.eq_zero_of_gcd_eq_zero_right z)
  have e1 := Nat.mul_div_cancel' (Nat.gcd_dvd_left x y)
  have e2 := Nat.mul_div_cancel' (Nat.gcd_dvd_right x y)
  refine ⟨Nat.gcd x y, x / Nat.gcd x y, y / Nat.gcd x y, hg, e1.symm, e2.symm, rfl, fun z => y0 (by rw [← e2, z, Nat.mul_zero]), ?_, ln_mono (Nat.div_le_self _ _), ln_mono (Nat.div_le_self _ _)⟩
  have e3 : Nat.gcd (Nat.gcd x y * (x / Nat.gcd x y)) (Nat.gcd x y * (y / Nat.gcd x y)) = Nat.gcd x y * Nat.gcd (x / Nat.gcd x y) (y / Nat.gcd x y) := Nat.gcd_mul_left _ _ _
  rw [e1, e2] at e3
  exact Nat.eq_of_mul_eq_mul_left (Nat.pos_of_ne_zero hg) (by rw [← e3, Nat.mul_one])

/-- The fraction a over b is x over y, reduced; x has at most m limbs, y at most n. -/
structure Is (a b x y m n : Nat) : Prop where
  eq : red x y = (a, b, 0)
  g : ∃ g, g ≠ 0 ∧ x = g * a ∧ y = g * b
  y0 : y ≠ 0
  co : Nat.gcd a b = 1
  la : ln a ≤ m
  lb : ln b ≤ n
theorem Is.b0 {a b x y m n : Nat} (h : Is a b x y m n) : b ≠ 0 := by
  obtain ⟨g, _, _, e⟩ := h.g
  rintro rfl
  exact h.y0 (by rw [e, Nat.mul_zero])
theorem Is.fq {a b x y m n : Nat} (h : Is a b x y m n) (hm : m ≤ 64) (hn : n ≤ 64) : Fq a b := ⟨Nat.le_trans h.la hm, Nat.le_trans h.lb hn, h.b0, h.co⟩
theorem Is.self {p q m n : Nat} (h : Fq p q) (hm : ln p ≤ m) (hn : ln q ≤ n) : Is p q p q m n := ⟨red_self h.co, ⟨1, by decide, by omega, by omega⟩, h.q0, h.co, hm, hn⟩
theorem is_of {x y m n : Nat} (y0 : y ≠ 0) (hm : ln x ≤ m) (hn : ln y ≤ n) : ∃ a b, Is a b x y m n := by
  obtain ⟨g, a, b, g0, ex, ey, er, b0, co, la, lb⟩ := red_get x y y0
  exact ⟨a, b, er, ⟨g, g0, ex, ey⟩, y0, co, Nat.le_trans la hm, Nat.le_trans lb hn⟩
/-- One that is another's: the same. -/
theorem Is.same {a b x y m n c d x' y' m' n' : Nat} (h : Is a b x y m n) (h' : Is c d x' y' m' n') (e : x * y' = x' * y) : c = a ∧ d = b := by
  have k : red x y = red x' y' := by
    rw [← red_scale (x := x) (y := y) h'.y0, ← red_scale (x := x') (y := y') h.y0]
    rw [show y' * x = y * x' by grind, Nat.mul_comm y' y]
  rw [h.eq, h'.eq] at k
  injection k with k1 k2
  injection k2 with k2 k3
  exact ⟨k1.symm, k2.symm⟩
theorem Is.turn {a b x y m n x' y' : Nat} (h : Is a b x y m n) (y0 : y' ≠ 0) (e : x * y' = x' * y) : Is a b x' y' m n := by
  obtain ⟨c, d, k⟩ := is_of (x := x') (y := y') (m := ln x') (n := ln y') y0 (Nat.le_refl _) (Nat.le_refl _)
  obtain ⟨rfl, rfl⟩ := h.same k e
  exact ⟨k.eq, k.g, y0, k.co, h.la, h.lb⟩

section
variable {a b x y m n c d x' y' m' n' : Nat}
/-- The sum of two is that of what they are. -/
theorem Is.add (h : Is a b x y m n) (h' : Is c d x' y' m' n') (s : n + n' ≤ 64) (s1 : m + n' ≤ 63) (s2 : m' + n ≤ 63) : ∃ p q, addR a b c d = (p, q, 0) ∧ Is p q (x * y' + x' * y) (y * y') (max (m + n') (m' + n) + 1) (n + n') := by
  have l0 : ln (b * d) ≤ n + n' := ln_mul h.lb h'.lb
  have l1 : ln (a * d) ≤ m + n' := ln_mul h.la h'.lb
  have l2 : ln (c * b) ≤ m' + n := ln_mul h'.la h.lb
  have l3 : ln (a * d + c * b) ≤ max (m + n') (m' + n) + 1 := ln_add (Nat.le_trans l1 (Nat.le_max_left _ _)) (Nat.le_trans l2 (Nat.le_max_right _ _))
  obtain ⟨p, q, k⟩ := is_of (x := a * d + c * b) (y := b * d) (Nat.mul_ne_zero h.b0 h'.b0) l3 l0
  refine ⟨p, q, ?_, k.turn (Nat.mul_ne_zero h.y0 h'.y0) ?_⟩
  · rw [addR_yes (by omega) (by omega) (by omega) (by omega)]; exact k.eq
  · obtain ⟨g, _, rfl, rfl⟩ := h.g
    obtain ⟨g', _, rfl, rfl⟩ := h'.g
    grind
theorem Is.sub (h : Is a b x y m n) (h' : Is c d x' y' m' n') (s : n + n' ≤ 64) (s1 : m + n' ≤ 64) (s2 : m' + n ≤ 64) (le : x' * y ≤ x * y') : ∃ p q, subR a b c d = (p, q, 0) ∧ Is p q (x * y' - x' * y) (y * y') (m + n') (n + n') := by
  have l0 : ln (b * d) ≤ n + n' := ln_mul h.lb h'.lb
  have l1 : ln (a * d) ≤ m + n' := ln_mul h.la h'.lb
  have l2 : ln (c * b) ≤ m' + n := ln_mul h'.la h.lb
  have l3 : ln (a * d - c * b) ≤ m + n' := Nat.le_trans (ln_mono (Nat.sub_le _ _)) l1
  obtain ⟨p, q, k⟩ := is_of (x := a * d - c * b) (y := b * d) (Nat.mul_ne_zero h.b0 h'.b0) l3 l0
  have y0 := Nat.mul_ne_zero h.y0 h'.y0
  obtain ⟨g, g0, rfl, rfl⟩ := h.g
  obtain ⟨g', g0', rfl, rfl⟩ := h'.g
  have gg : g * g' ≠ 0 := Nat.mul_ne_zero g0 g0'
  have e1 : g * a * (g' * d) = g * g' * (a * d) := by grind
  have e2 : g' * c * (g * b) = g * g' * (c * b) := by grind
  have e3 : g * b * (g' * d) = g * g' * (b * d) := by grind
  rw [e1, e2] at le
  have le' : c * b ≤ a * d := Nat.le_of_mul_le_mul_left le (Nat.pos_of_ne_zero gg)
  refine ⟨p, q, ?_, k.turn y0 ?_⟩
  · rw [subR_yes (by omega) (by omega) (by omega) le']; exact k.eq
  · rw [e1, e2, e3, ← Nat.mul_sub]
    grind
theorem Is.low (h : Is a b x y m n) (h' : Is c d x' y' m' n') (s : n + n' ≤ 64) (s1 : m + n' ≤ 64) (s2 : m' + n ≤ 64) (lt : x * y' < x' * y) : subR a b c d = (0, 0, 1) := by
  have l0 : ln (b * d) ≤ n + n' := ln_mul h.lb h'.lb
  have l1 : ln (a * d) ≤ m + n' := ln_mul h.la h'.lb
  have l2 : ln (c * b) ≤ m' + n := ln_mul h'.la h.lb
  obtain ⟨g, g0, rfl, rfl⟩ := h.g
  obtain ⟨g', g0', rfl, rfl⟩ := h'.g
  have e1 : g * a * (g' * d) = g * g' * (a * d) := by grind
  have e2 : g' * c * (g * b) = g * g' * (c * b) := by grind
  rw [e1, e2] at lt
  exact subR_low (by omega) (by omega) (by omega) (Nat.lt_of_mul_lt_mul_left lt)
theorem Is.mul (h : Is a b x y m n) (h' : Is c d x' y' m' n') (s : n + n' ≤ 64) (s1 : m + m' ≤ 64) : ∃ p q, mulR a b c d = (p, q, 0) ∧ Is p q (x * x') (y * y') (m + m') (n + n') := by
  have l0 : ln (b * d) ≤ n + n' := ln_mul h.lb h'.lb
  have l1 : ln (a * c) ≤ m + m' := ln_mul h.la h'.la
  obtain ⟨p, q, k⟩ := is_of (x := a * c) (y := b * d) (Nat.mul_ne_zero h.b0 h'.b0) l1 l0
  refine ⟨p, q, ?_, k.turn (Nat.mul_ne_zero h.y0 h'.y0) ?_⟩
  · rw [mulR_yes (by omega) (by omega)]; exact k.eq
  · obtain ⟨g, _, rfl, rfl⟩ := h.g
    obtain ⟨g', _, rfl, rfl⟩ := h'.g
    grind
theorem Is.div (h : Is a b x y m n) (h' : Is c d x' y' m' n') (s : m + n' ≤ 64) (s1 : m' + n ≤ 64) (z : x' ≠ 0) : ∃ p q, divR a b c d = (p, q, 0) ∧ Is p q (x * y') (x' * y) (m + n') (m' + n) := by
  have l0 : ln (a * d) ≤ m + n' := ln_mul h.la h'.lb
  have l1 : ln (c * b) ≤ m' + n := ln_mul h'.la h.lb
  have y0 := Nat.mul_ne_zero z h.y0
  obtain ⟨g, g0, ex, ey⟩ := h.g
  obtain ⟨g', g0', ex', ey'⟩ := h'.g
  have c0 : c ≠ 0 := by rintro rfl; exact z (by rw [ex', Nat.mul_zero])
  obtain ⟨p, q, k⟩ := is_of (x := a * d) (y := c * b) (Nat.mul_ne_zero c0 h.b0) l0 l1
  refine ⟨p, q, ?_, k.turn y0 ?_⟩
  · rw [divR_yes c0 (by omega) (by omega)]; exact k.eq
  · subst ex ey ex' ey'
    grind
theorem sgn_scale {g u v : Nat} (g0 : g ≠ 0) : sgn (g * u) (g * v) = sgn u v :=
  sgn_congr (Nat.mul_lt_mul_left (Nat.pos_of_ne_zero g0)) (Nat.mul_lt_mul_left (Nat.pos_of_ne_zero g0))
theorem Is.cmp (h : Is a b x y m n) (h' : Is c d x' y' m' n') (s : m + n' ≤ 64) (s1 : m' + n ≤ 64) : cmpN a b c d = sgn (x * y') (x' * y) ∧ cmpE a b c d = 0 := by
  have l0 : ln (a * d) ≤ m + n' := ln_mul h.la h'.lb
  have l1 : ln (c * b) ≤ m' + n := ln_mul h'.la h.lb
  refine ⟨?_, cmpE_yes (by omega) (by omega)⟩
  rw [cmpN_yes (by omega) (by omega)]
  obtain ⟨g, g0, rfl, rfl⟩ := h.g
  obtain ⟨g', g0', rfl, rfl⟩ := h'.g
  have e1 : g * a * (g' * d) = g * g' * (a * d) := by grind
  have e2 : g' * c * (g * b) = g * g' * (c * b) := by grind
  rw [e1, e2, sgn_scale (Nat.mul_ne_zero g0 g0')]
end
/-- A fraction of at most 6 limbs, each. -/
structure F6 (p q : Nat) : Prop where
  f : Fq p q
  lp : ln p ≤ 6
  lq : ln q ≤ 6
theorem F6.is {p q : Nat} (h : F6 p q) : Is p q p q 6 6 := .self h.f h.lp h.lq

theorem laws_num {p q p' q' r s : Nat} (ha : F6 p q) (hb : F6 p' q') (hc : F6 r s) : ∃ x1 x2 y1 y2 z1 z2 m1 m2 u1 u2 v1 v2 t1 t2, addR p q p' q' = (x1, x2, 0) ∧ addR p' q' p q = (x1, x2, 0) ∧ Fq x1 x2 ∧ addR x1 x2 r s = (y1, y2, 0) ∧ addR p' q' r s = (z1, z2, 0) ∧ Fq z1 z2 ∧
    addR p q z1 z2 = (y1, y2, 0) ∧ mulR p q p' q' = (m1, m2, 0) ∧ mulR p' q' p q = (m1, m2, 0) ∧ mulR x1 x2 r s = (u1, u2, 0) ∧ mulR p q r s = (v1, v2, 0) ∧ Fq v1 v2 ∧ mulR p' q' r s = (t1, t2, 0) ∧ Fq t1 t2 ∧ addR v1 v2 t1 t2 = (u1, u2, 0) := by
  obtain ⟨x1, x2, ex, ix⟩ := ha.is.add hb.is (by decide) (by decide) (by decide)
  obtain ⟨x3, x4, ex', ix'⟩ := hb.is.add ha.is (by decide) (by decide) (by decide)
  obtain ⟨rfl, rfl⟩ := ix.same ix' (by grind)
  obtain ⟨y1, y2, ey, iy⟩ := ix.add hc.is (by decide) (by decide) (by decide)
  obtain ⟨z1, z2, ez, iz⟩ := hb.is.add hc.is (by decide) (by decide) (by decide)
  obtain ⟨y3, y4, ey', iy'⟩ := ha.is.add iz (by decide) (by decide) (by decide)
  obtain ⟨rfl, rfl⟩ := iy.same iy' (by grind)
  obtain ⟨m1, m2, em, im⟩ := ha.is.mul hb.is (by decide) (by decide)
  obtain ⟨m3, m4, em', im'⟩ := hb.is.mul ha.is (by decide) (by decide)
  obtain ⟨rfl, rfl⟩ := im.same im' (by grind)
  obtain ⟨u1, u2, eu, iu⟩ := ix.mul hc.is (by decide) (by decide)
  obtain ⟨v1, v2, ev, iv⟩ := ha.is.mul hc.is (by decide) (by decide)
  obtain ⟨t1, t2, et, it⟩ := hb.is.mul hc.is (by decide) (by decide)
  obtain ⟨u3, u4, eu', iu'⟩ := iv.add it (by decide) (by decide) (by decide)
  obtain ⟨rfl, rfl⟩ := iu.same iu' (by grind)
  exact ⟨_, _, _, _, _, _, _, _, _, _, _, _, _, _, ex, ex', ix.fq (by decide) (by decide), ey, ez, iz.fq (by decide) (by decide), ey', em, em', eu, ev, iv.fq (by decide) (by decide), et, it.fq (by decide) (by decide), eu'⟩
theorem back_num {p q p' q' : Nat} (ha : F6 p q) (hb : F6 p' q') : ∃ x1 x2 m1 m2, addR p q p' q' = (x1, x2, 0) ∧ Fq x1 x2 ∧ subR x1 x2 p' q' = (p, q, 0) ∧ mulR p q p' q' = (m1, m2, 0) ∧ Fq m1 m2 ∧ (p' ≠ 0 → divR m1 m2 p' q' = (p, q, 0)) ∧ (p' = 0 → x1 = p ∧ x2 = q) := by
  have q0 := hb.f.q0
  obtain ⟨x1, x2, ex, ix⟩ := ha.is.add hb.is (by decide) (by decide) (by decide)
  obtain ⟨d1, d2, ed, id⟩ := ix.sub hb.is (by decide) (by decide) (by decide) (by
    have : (p * q' + p' * q) * q' = p' * (q * q') + p * (q' * q') := by grind
    omega)
  obtain ⟨m1, m2, em, im⟩ := ha.is.mul hb.is (by decide) (by decide)
  have e : (p * q' + p' * q) * q' - p' * (q * q') = p * (q' * q') := by
    have : (p * q' + p' * q) * q' = p' * (q * q') + p * (q' * q') := by grind
    omega
  rw [e] at id
  obtain ⟨rfl, rfl⟩ := id.same ha.is (by grind)
  refine ⟨x1, x2, m1, m2, ex, ix.fq (by decide) (by decide), ed, em, im.fq (by decide) (by decide), fun z => ?_, fun z => ?_⟩
  · obtain ⟨e1, e2, ee, ie⟩ := im.div hb.is (by decide) (by decide) z
    obtain ⟨rfl, rfl⟩ := ie.same ha.is (by grind)
    exact ee
  · subst z
    obtain ⟨h1, h2⟩ := ix.same ha.is (by grind)
    exact ⟨h1.symm, h2.symm⟩
theorem middle_num {p q p' q' : Nat} (ha : F6 p q) (hb : F6 p' q') (le : p * q' ≤ p' * q) : ∃ s1 s2 m1 m2 x1 x2, addR p q p' q' = (s1, s2, 0) ∧ Fq s1 s2 ∧ divR s1 s2 2 1 = (m1, m2, 0) ∧ Fq m1 m2 ∧ subR m1 m2 p q = (x1, x2, 0) ∧ subR p' q' m1 m2 = (x1, x2, 0) := by
  have i2 : Is 2 1 2 1 1 1 := .self ⟨ln_tiny (by decide), ln_tiny (by decide), by decide, by decide⟩ (ln_le (by rw [B_eq]; decide)) (ln_le (by rw [B_eq]; decide))
  obtain ⟨d, hd⟩ := Nat.exists_eq_add_of_le le
  obtain ⟨s1, s2, es, is⟩ := ha.is.add hb.is (by decide) (by decide) (by decide)
  obtain ⟨m1, m2, em, im⟩ := is.div i2 (by decide) (by decide) (by decide)
  have e1 : (p * q' + p' * q) * 1 * q = p * (2 * (q * q')) + q * d := by grind
  have e2 : p' * (2 * (q * q')) = (p * q' + p' * q) * 1 * q' + q' * d := by grind
  obtain ⟨x1, x2, ex, ix⟩ := im.sub ha.is (by decide) (by decide) (by decide) (by omega)
  obtain ⟨y1, y2, ey, iy⟩ := hb.is.sub im (by decide) (by decide) (by decide) (by omega)
  rw [show (p * q' + p' * q) * 1 * q - p * (2 * (q * q')) = q * d by omega] at ix
  rw [show p' * (2 * (q * q')) - (p * q' + p' * q) * 1 * q' = q' * d by omega] at iy
  obtain ⟨rfl, rfl⟩ := ix.same iy (by grind)
  exact ⟨_, _, _, _, _, _, es, is.fq (by decide) (by decide), em, im.fq (by decide) (by decide), ex, ey⟩
theorem scale_num {p q N : Nat} (h : F6 p q) (n0 : N ≠ 0) : red (p * N) (q * N) = (p, q, 0) := by
  rw [Nat.mul_comm p, Nat.mul_comm q, red_scale n0]; exact red_self h.f.co
theorem same_num {p q p' q' : Nat} (ha : Fq p q) (hb : Fq p' q') : p * q' = p' * q ↔ p = p' ∧ q = q' := by
  refine ⟨fun e => ?_, fun ⟨a, b⟩ => by rw [a, b]⟩
  obtain ⟨a, b⟩ := (Is.self ha (Nat.le_refl _) (Nat.le_refl _)).same (Is.self hb (Nat.le_refl _) (Nat.le_refl _)) e
  exact ⟨a.symm, b.symm⟩
end Go.Proofs.YtnacokogihanoaaDoor
