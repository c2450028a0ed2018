/- Plain arithmetic of fractions: what is reduced, and what the laws of rat ask. What the laws ask of the five calls of rank, as one bundle: to be shown of the code that landed. What the laws' proofs share: arguments that are limbs; the rows' last step. What the laws of rank share: arguments that are items, lists of items, numbers, opened. Plain: stretches that change places; two stretches in order that are merged, the equal ones as they came. A row of items that a call turns in place: nothing else turns. slices.swapRangeCmpFunc: two stretches change places. -/
import Derived.Test.YthollkngfibgaaaDoorJ06
import Derived.Test.YthollkngfibgaaaDoorJ07
import Derived.Test.YthollkngfibgaaaDoorJ09
import Derived.Test.YthollkngfibgaaaDoorJ05
import Derived.Test.YthollkngfibgaaaDoorCards
import Derived.Test.YthollkngfibgaaaDoorTie
import Derived.ProofKit
import Derived.OpenShut
import Derived.Carry
import Derived.Lay
import Derived.SevenTiedAt
import Derived.MakeChecks
import Derived.Lib.SmallJoins
import Derived.Laws.Cover2
import Derived.Deep.SlicePairs
import Derived.Deep.Strs
import Derived.Test.YthollkngfibgaaaDoorJ00
import Derived.Deep.RegionHeld3
import Derived.Deep.LoopGhost
import Derived.Deep.CutBlock
import Derived.Deep.DeepCutAuto
import Derived.Deep.Light
import Derived.Lib.Hide
import Derived.BigRegion
import Derived.BigQuiet
namespace Go.Proofs.YthollkngfibgaaaDoor
set_option linter.unusedVariables false

theorem red_scale {k x y : Nat} (hk : k ≠ 0) : red (k * x) (k * y) = red x y := by
  unfold red
  rw [Nat.gcd_mul_left, Nat.mul_div_mul_left _ _ (Nat.pos_of_ne_zero hk), Nat.mul_div_mul_left _ _ (Nat.pos_of_ne_zero hk)]
theorem red_self {p q : Nat} (h : Nat.gcd p q = 1) : red p q = (p, q, 0) := by
  unfold red
  rw [h, Nat.div_one, Nat.div_one]
/-- What is reduced, in letters. -/
theorem red_get (x y : Nat) (y0 : y ≠ 0) : ∃ g a b, g ≠ 0 ∧ x = g * a ∧ y = g * b ∧ red x y = (a, b, 0) ∧ b ≠ 0 ∧ Nat.gcd a b = 1 ∧ ln a ≤ ln x ∧ ln b ≤ ln y := by
  have hg : Nat.gcd x y ≠ 0 := fun z => y0 (Nat.eq_zero_of_gcd_eq_zero_right z)
  have e1 := Nat.mul_div_cancel' (Nat.gcd_dvd_left x y)
  have e2 := Nat.mul_div_cancel' (Nat.gcd_dvd_right x y)
  refine ⟨Nat.gcd x y, x / Nat.gcd x y, y / Nat.gcd x y, hg, e1.symm, e2.symm, rfl, fun z => y0 (by rw [← e2, z, Nat.mul_zero]), ?_, ln_mono (Nat.div_le_self _ _), ln_mono (Nat.div_le_self _ _)⟩
  have e3 : Nat.gcd (Nat.gcd x y * (x / Nat.gcd x y)) (Nat.gcd x y * (y / Nat.gcd x y)) = Nat.gcd x y * Nat.gcd (x / Nat.gcd x y) (y / Nat.gcd x y) := Nat.gcd_mul_left _ _ _
  rw [e1, e2] at e3
  exact Nat.eq_of_mul_eq_mul_left (Nat.pos_of_ne_zero hg) (by rw [← e3, Nat.mul_one])

/-- The fraction a over b is x over y, reduced; x has at most m limbs, y at most n. -/
structure Is (a b x y m n : Nat) : Prop where
  eq : red x y = (a, b, 0)
  g : ∃ g, g ≠ 0 ∧ x = g * a ∧ y = g * b
  y0 : y ≠ 0
  co : Nat.gcd a b = 1
  la : ln a ≤ m
  lb : ln b ≤ n
theorem Is.b0 {a b x y m n : Nat} (h : Is a b x y m n) : b ≠ 0 := by
  obtain ⟨g, _, _, e⟩ := h.g
  rintro rfl
  exact h.y0 (by rw [e, Nat.mul_zero])
theorem Is.fq {a b x y m n : Nat} (h : Is a b x y m n) (hm : m ≤ 64) (hn : n ≤ 64) : Fq a b := ⟨Nat.le_trans h.la hm, Nat.le_trans h.lb hn, h.b0, h.co⟩
theorem Is.self {p q m n : Nat} (h : Fq p q) (hm : ln p ≤ m) (hn : ln q ≤ n) : Is p q p q m n := ⟨red_self h.co, ⟨1, by decide, by omega, by omega⟩, h.q0, h.co, hm, hn⟩
theorem is_of {x y m n : Nat} (y0 : y ≠ 0) (hm : ln x ≤ m) (hn : ln y ≤ n) : ∃ a b, Is a b x y m n := by
  obtain ⟨g, a, b, g0, ex, ey, er, b0, co, la, lb⟩ := red_get x y y0
  exact ⟨a, b, er, ⟨g, g0, ex, ey⟩, y0, co, Nat.le_trans la hm, Nat.le_trans lb hn⟩
/-- One that is another's: the same. -/
theorem Is.same {a b x y m n c d x' y' m' n' : Nat} (h : Is a b x y m n) (h' : Is c d x' y' m' n') (e : x * y' = x' * y) : c = a ∧ d = b := by
  have k : red x y = red x' y' := by
    rw [← red_scale (x := x) (y := y) h'.y0, ← red_scale (x := x') (y := y') h.y0]
    rw [show y' * x = y * x' by grind, Nat.mul_comm y' y]
  rw [h.eq, h'.eq] at k
  injection k with k1 k2
  injection k2 with k2 k3
  exact ⟨k1.symm, k2.symm⟩
theorem Is.turn {a b x y m n x' y' : Nat} (h : Is a b x y m n) (y0 : y' ≠ 0) (e : x * y' = x' * y) : Is a b x' y' m n := by
  obtain ⟨c, d, k⟩ := is_of (x := x') (y := y') (m := ln x') (n := ln y') y0 (Nat.le_refl _) (Nat.le_refl _)
  obtain ⟨rfl, rfl⟩ := h.same k e
  exact ⟨k.eq, k.g, y0, k.co, h.la, h.lb⟩

section
variable {a b x y m n c d x' y' m' n' : Nat}
/-- The sum of two is that of what they are. -/
theorem Is.add (h : Is a b x y m n) (h' : Is c d x' y' m' n') (s : n + n' ≤ 64) (s1 : m + n' ≤ 63) (s2 : m' + n ≤ 63) : ∃ p q, addR a b c d = (p, q, 0) ∧ Is p q (x * y' + x' * y) (y * y') (max (m + n') (m' + n) + 1) (n + n') := by
  have l0 : ln (b * d) ≤ n + n' := ln_mul h.lb h'.lb
  have l1 : ln (a * d) ≤ m + n' := ln_mul h.la h'.lb
  have l2 : ln (c * b) ≤ m' + n := ln_mul h'.la h.lb
  have l3 : ln (a * d + c * b) ≤ max (m + n') (m' + n) + 1 := ln_add (Nat.le_trans l1 (Nat.le_max_left _ _)) (Nat.le_trans l2 (Nat.le_max_right _ _))
  obtain ⟨p, q, k⟩ := is_of (x := a * d + c * b) (y := b * d) (Nat.mul_ne_zero h.b0 h'.b0) l3 l0
  refine ⟨p, q, ?_, k.turn (Nat.mul_ne_zero h.y0 h'.y0) ?_⟩
  · rw [addR_yes (by omega) (by omega) (by omega) (by omega)]; exact k.eq
  · obtain ⟨g, _, rfl, rfl⟩ := h.g
    obtain ⟨g', _, rfl, rfl⟩ := h'.g
    grind
theorem Is.sub (h : Is a b x y m n) (h' : Is c d x' y' m' n') (s : n + n' ≤ 64) (s1 : m + n' ≤ 64) (s2 : m' + n ≤ 64) (le : x' * y ≤ x * y') : ∃ p q, subR a b c d = (p, q, 0) ∧ Is p q (x * y' - x' * y) (y * y') (m + n') (n + n') := by
  have l0 : ln (b * d) ≤ n + n' := ln_mul h.lb h'.lb
  have l1 : ln (a * d) ≤ m + n' := ln_mul h.la h'.lb
  have l2 : ln (c * b) ≤ m' + n := ln_mul h'.la h.lb
  have l3 : ln (a * d - c * b) ≤ m + n' := Nat.le_trans (ln_mono (Nat.sub_le _ _)) l1
  obtain ⟨p, q, k⟩ := is_of (x := a * d - c * b) (y := b * d) (Nat.mul_ne_zero h.b0 h'.b0) l3 l0
  have y0 := Nat.mul_ne_zero h.y0 h'.y0
  obtain ⟨g, g0, rfl, rfl⟩ := h.g
  obtain ⟨g', g0', rfl, rfl⟩ := h'.g
  have gg : g * g' ≠ 0 := Nat.mul_ne_zero g0 g0'
  have e1 : g * a * (g' * d) = g * g' * (a * d) := by grind
  have e2 : g' * c * (g * b) = g * g' * (c * b) := by grind
  have e3 : g * b * (g' * d) = g * g' * (b * d) := by grind
  rw [e1, e2] at le
  have le' : c * b ≤ a * d := Nat.le_of_mul_le_mul_left le (Nat.pos_of_ne_zero gg)
  refine ⟨p, q, ?_, k.turn y0 ?_⟩
  · rw [subR_yes (by omega) (by omega) (by omega) le']; exact k.eq
  · rw [e1, e2, e3, ← Nat.mul_sub]
    grind
theorem Is.low (h : Is a b x y m n) (h' : Is c d x' y' m' n') (s : n + n' ≤ 64) (s1 : m + n' ≤ 64) (s2 : m' + n ≤ 64) (lt : x * y' < x' * y) : subR a b c d = (0, 0, 1) := by
  have l0 : ln (b * d) ≤ n + n' := ln_mul h.lb h'.lb
  have l1 : ln (a * d) ≤ m + n' := ln_mul h.la h'.lb
  have l2 : ln (c * b) ≤ m' + n := ln_mul h'.la h.lb
  obtain ⟨g, g0, rfl, rfl⟩ := h.g
  obtain ⟨g', g0', rfl, rfl⟩ := h'.g
  have e1 : g * a * (g' * d) = g * g' * (a * d) := by grind
  have e2 : g' * c * (g * b) = g * g' * (c * b) := by grind
  rw [e1, e2] at lt
  exact subR_low (by omega) (by omega) (by omega) (Nat.lt_of_mul_lt_mul_left lt)
theorem Is.mul (h : Is a b x y m n) (h' : Is c d x' y' m' n') (s : n + n' ≤ 64) (s1 : m + m' ≤ 64) : ∃ p q, mulR a b c d = (p, q, 0) ∧ Is p q (x * x') (y * y') (m + m') (n + n') := by
  have l0 : ln (b * d) ≤ n + n' := ln_mul h.lb h'.lb
  have l1 : ln (a * c) ≤ m + m' := ln_mul h.la h'.la
  obtain ⟨p, q, k⟩ := is_of (x := a * c) (y := b * d) (Nat.mul_ne_zero h.b0 h'.b0) l1 l0
  refine ⟨p, q, ?_, k.turn (Nat.mul_ne_zero h.y0 h'.y0) ?_⟩
  · rw [mulR_yes (by omega) (by omega)]; exact k.eq
  · obtain ⟨g, _, rfl, rfl⟩ := h.g
    obtain ⟨g', _, rfl, rfl⟩ := h'.g
    grind
theorem Is.div (h : Is a b x y m n) (h' : Is c d x' y' m' n') (s : m + n' ≤ 64) (s1 : m' + n ≤ 64) (z : x' ≠ 0) : ∃ p q, divR a b c d = (p, q, 0) ∧ Is p q (x * y') (x' * y) (m + n') (m' + n) := by
  have l0 : ln (a * d) ≤ m + n' := ln_mul h.la h'.lb
  have l1 : ln (c * b) ≤ m' + n := ln_mul h'.la h.lb
  have y0 := Nat.mul_ne_zero z h.y0
  obtain ⟨g, g0, ex, ey⟩ := h.g
  obtain ⟨g', g0', ex', ey'⟩ := h'.g
  have c0 : c ≠ 0 := by rintro rfl; exact z (by rw [ex', Nat.mul_zero])
  obtain ⟨p, q, k⟩ := is_of (x := a * d) (y := c * b) (Nat.mul_ne_zero c0 h.b0) l0 l1
  refine ⟨p, q, ?_, k.turn y0 ?_⟩
  · rw [divR_yes c0 (by omega) (by omega)]; exact k.eq
  · subst ex ey ex' ey'
    grind
theorem sgn_scale {g u v : Nat} (g0 : g ≠ 0) : sgn (g * u) (g * v) = sgn u v :=
  sgn_congr (Nat.mul_lt_mul_left (Nat.pos_of_ne_zero g0)) (Nat.mul_lt_mul_left (Nat.pos_of_ne_zero g0))
theorem Is.cmp (h : Is a b x y m n) (h' : Is c d x' y' m' n') (s : m + n' ≤ 64) (s1 : m' + n ≤ 64) : cmpN a b c d = sgn (x * y') (x' * y) ∧ cmpE a b c d = 0 := by
  have l0 : ln (a * d) ≤ m + n' := ln_mul h.la h'.lb
  have l1 : ln (c * b) ≤ m' + n := ln_mul h'.la h.lb
  refine ⟨?_, cmpE_yes (by omega) (by omega)⟩
  rw [cmpN_yes (by omega) (by omega)]
  obtain ⟨g, g0, rfl, rfl⟩ := h.g
  obtain ⟨g', g0', rfl, rfl⟩ := h'.g
  have e1 : g * a * (g' * d) = g * g' * (a * d) := by grind
  have e2 : g' * c * (g * b) = g * g' * (c * b) := by grind
  rw [e1, e2, sgn_scale (Nat.mul_ne_zero g0 g0')]
end
/-- A fraction of at most 6 limbs, each. -/
structure F6 (p q : Nat) : Prop where
  f : Fq p q
  lp : ln p ≤ 6
  lq : ln q ≤ 6
theorem F6.is {p q : Nat} (h : F6 p q) : Is p q p q 6 6 := .self h.f h.lp h.lq

theorem laws_num {p q p' q' r s : Nat} (ha : F6 p q) (hb : F6 p' q') (hc : F6 r s) : ∃ x1 x2 y1 y2 z1 z2 m1 m2 u1 u2 v1 v2 t1 t2, addR p q p' q' = (x1, x2, 0) ∧ addR p' q' p q = (x1, x2, 0) ∧ Fq x1 x2 ∧ addR x1 x2 r s = (y1, y2, 0) ∧ addR p' q' r s = (z1, z2, 0) ∧ Fq z1 z2 ∧
    addR p q z1 z2 = (y1, y2, 0) ∧ mulR p q p' q' = (m1, m2, 0) ∧ mulR p' q' p q = (m1, m2, 0) ∧ mulR x1 x2 r s = (u1, u2, 0) ∧ mulR p q r s = (v1, v2, 0) ∧ Fq v1 v2 ∧ mulR p' q' r s = (t1, t2, 0) ∧ Fq t1 t2 ∧ addR v1 v2 t1 t2 = (u1, u2, 0) := by
  obtain ⟨x1, x2, ex, ix⟩ := ha.is.add hb.is (by decide) (by decide) (by decide)
  obtain ⟨x3, x4, ex', ix'⟩ := hb.is.add ha.is (by decide) (by decide) (by decide)
  obtain ⟨rfl, rfl⟩ := ix.same ix' (by grind)
  obtain ⟨y1, y2, ey, iy⟩ := ix.add hc.is (by decide) (by decide) (by decide)
  obtain ⟨z1, z2, ez, iz⟩ := hb.is.add hc.is (by decide) (by decide) (by decide)
  obtain ⟨y3, y4, ey', iy'⟩ := ha.is.add iz (by decide) (by decide) (by decide)
  obtain ⟨rfl, rfl⟩ := iy.same iy' (by grind)
  obtain ⟨m1, m2, em, im⟩ := ha.is.mul hb.is (by decide) (by decide)
  obtain ⟨m3, m4, em', im'⟩ := hb.is.mul ha.is (by decide) (by decide)
  obtain ⟨rfl, rfl⟩ := im.same im' (by grind)
  obtain ⟨u1, u2, eu, iu⟩ := ix.mul hc.is (by decide) (by decide)
  obtain ⟨v1, v2, ev, iv⟩ := ha.is.mul hc.is (by decide) (by decide)
  obtain ⟨t1, t2, et, it⟩ := hb.is.mul hc.is (by decide) (by decide)
  obtain ⟨u3, u4, eu', iu'⟩ := iv.add it (by decide) (by decide) (by decide)
  obtain ⟨rfl, rfl⟩ := iu.same iu' (by grind)
  exact ⟨_, _, _, _, _, _, _, _, _, _, _, _, _, _, ex, ex', ix.fq (by decide) (by decide), ey, ez, iz.fq (by decide) (by decide), ey', em, em', eu, ev, iv.fq (by decide) (by decide), et, it.fq (by decide) (by decide), eu'⟩
theorem back_num {p q p' q' : Nat} (ha : F6 p q) (hb : F6 p' q') : ∃ x1 x2 m1 m2, addR p q p' q' = (x1, x2, 0) ∧ Fq x1 x2 ∧ subR x1 x2 p' q' = (p, q, 0) ∧ mulR p q p' q' = (m1, m2, 0) ∧ Fq m1 m2 ∧ (p' ≠ 0 → divR m1 m2 p' q' = (p, q, 0)) ∧ (p' = 0 → x1 = p ∧ x2 = q) := by
  have q0 := hb.f.q0
  obtain ⟨x1, x2, ex, ix⟩ := ha.is.add hb.is (by decide) (by decide) (by decide)
  obtain ⟨d1, d2, ed, id⟩ := ix.sub hb.is (by decide) (by decide) (by decide) (by
    have : (p * q' + p' * q) * q' = p' * (q * q') + p * (q' * q') := by grind
    omega)
  obtain ⟨m1, m2, em, im⟩ := ha.is.mul hb.is (by decide) (by decide)
  have e : (p * q' + p' * q) * q' - p' * (q * q') = p * (q' * q') := by
    have : (p * q' + p' * q) * q' = p' * (q * q') + p * (q' * q') := by grind
    omega
  rw [e] at id
  obtain ⟨rfl, rfl⟩ := id.same ha.is (by grind)
  refine ⟨x1, x2, m1, m2, ex, ix.fq (by decide) (by decide), ed, em, im.fq (by decide) (by decide), fun z => ?_, fun z => ?_⟩
  · obtain ⟨e1, e2, ee, ie⟩ := im.div hb.is (by decide) (by decide) z
    obtain ⟨rfl, rfl⟩ := ie.same ha.is (by grind)
    exact ee
  · subst z
    obtain ⟨h1, h2⟩ := ix.same ha.is (by grind)
    exact ⟨h1.symm, h2.symm⟩
theorem middle_num {p q p' q' : Nat} (ha : F6 p q) (hb : F6 p' q') (le : p * q' ≤ p' * q) : ∃ s1 s2 m1 m2 x1 x2, addR p q p' q' = (s1, s2, 0) ∧ Fq s1 s2 ∧ divR s1 s2 2 1 = (m1, m2, 0) ∧ Fq m1 m2 ∧ subR m1 m2 p q = (x1, x2, 0) ∧ subR p' q' m1 m2 = (x1, x2, 0) := by
  have i2 : Is 2 1 2 1 1 1 := .self ⟨ln_tiny (by decide), ln_tiny (by decide), by decide, by decide⟩ (ln_le (by rw [B_eq]; decide)) (ln_le (by rw [B_eq]; decide))
  obtain ⟨d, hd⟩ := Nat.exists_eq_add_of_le le
  obtain ⟨s1, s2, es, is⟩ := ha.is.add hb.is (by decide) (by decide) (by decide)
  obtain ⟨m1, m2, em, im⟩ := is.div i2 (by decide) (by decide) (by decide)
  have e1 : (p * q' + p' * q) * 1 * q = p * (2 * (q * q')) + q * d := by grind
  have e2 : p' * (2 * (q * q')) = (p * q' + p' * q) * 1 * q' + q' * d := by grind
  obtain ⟨x1, x2, ex, ix⟩ := im.sub ha.is (by decide) (by decide) (by decide) (by omega)
  obtain ⟨y1, y2, ey, iy⟩ := hb.is.sub im (by decide) (by decide) (by decide) (by omega)
  rw [show (p * q' + p' * q) * 1 * q - p * (2 * (q * q')) = q * d by omega] at ix
  rw [show p' * (2 * (q * q')) - (p * q' + p' * q) * 1 * q' = q' * d by omega] at iy
  obtain ⟨rfl, rfl⟩ := ix.same iy (by grind)
  exact ⟨_, _, _, _, _, _, es, is.fq (by decide) (by decide), em, im.fq (by decide) (by decide), ex, ey⟩
theorem scale_num {p q N : Nat} (h : F6 p q) (n0 : N ≠ 0) : red (p * N) (q * N) = (p, q, 0) := by
  rw [Nat.mul_comm p, Nat.mul_comm q, red_scale n0]; exact red_self h.f.co
theorem same_num {p q p' q' : Nat} (ha : Fq p q) (hb : Fq p' q') : p * q' = p' * q ↔ p = p' ∧ q = q' := by
  refine ⟨fun e => ?_, fun ⟨a, b⟩ => by rw [a, b]⟩
  obtain ⟨a, b⟩ := (Is.self ha (Nat.le_refl _) (Nat.le_refl _)).same (Is.self hb (Nat.le_refl _) (Nat.le_refl _)) e
  exact ⟨a.symm, b.symm⟩
end Go.Proofs.YthollkngfibgaaaDoor
namespace Go.Proofs.YthollkngfibgaaaDoor
open Go.RowKit
/-- Check's answer. -/
def chk (x : It) : Int := if 64 < x.k.size then 5 else if x.w = 0 then 7 else 0
theorem chk_zero {x : It} : chk x = 0 ↔ x.k.size ≤ 64 ∧ 0 < x.w := by
  unfold chk; (repeat' split) <;> simp <;> omega
theorem chk_may {x : It} : chk x = 0 ↔ mayB x = true := by
  rw [chk_zero]; unfold mayB; simp
/-- Rank's answer. -/
def rnk (x : It) : Ans := if chk x = 0 then (x.u / Nat.gcd x.u x.w, x.w / Nat.gcd x.u x.w, 0) else (0, 0, chk x)
/-- The answer is a list. -/
def RetL (s : List It) (w : World) (e : Ending) (w' : World) : Prop := ∃ A c, e = .returned (.slice A s.length c) ∧ Its w' A s.length c s ∧ Below w.heap.size w w'
/-- What the five calls answer. -/
structure Prog10 : Prop where
  cmp : ∀ (a b : It), a.Fit → b.Fit → ∀ w : World, Calls Tryd.prog 13 #[itv a, itv b] w fun e w' => e = .returned (.int .i64 (cmpI a b)) ∧ Below w.heap.size w w'
  check : ∀ (a : It) (w : World), Calls Tryd.prog 15 #[itv a] w fun e w' => e = .returned (.int .i64 (chk a)) ∧ Below w.heap.size w w'
  rank : ∀ (a : It), a.Fit → ∀ w : World, Calls Tryd.prog 10 #[itv a] w fun e w' => RetA3 (rnk a) w e w'
  sort : ∀ {A : Option Addr} {n c : Nat} {l : List It} {w : World}, Its w A n c l → n ≤ 1000 → l.all mayB = true → Calls Tryd.prog 18 #[.slice A n c] w fun e w' => ∃ s, IsSort l s ∧ RetL s w e w'
  sortNo : ∀ {A : Option Addr} {n c : Nat} {l : List It} {w : World}, Its w A n c l → n ≤ 1000 → l.all mayB = false → Calls Tryd.prog 18 #[.slice A n c] w fun e w' => RetL [] w e w'
  least : ∀ {A : Option Addr} {n c : Nat} {l : List It} {w : World}, Its w A n c l → n ≤ 1000 → l.all mayB = true → ∀ k : Int, -9223372036854775808 ≤ k ∧ k ≤ 9223372036854775807 → Calls Tryd.prog 19 #[.slice A n c, .int .i64 k] w fun e w' => ∃ s, IsSort l s ∧ RetL (s.take k.toNat) w e w'
  leastNo : ∀ {A : Option Addr} {n c : Nat} {l : List It} {w : World}, Its w A n c l → n ≤ 1000 → l.all mayB = false → ∀ k : Int, -9223372036854775808 ≤ k ∧ k ≤ 9223372036854775807 → Calls Tryd.prog 19 #[.slice A n c, .int .i64 k] w fun e w' => RetL [] w e w'
theorem May.of {l : List It} (h : l.all mayB = true) : May l := fun y hy => (chk_zero.1 (chk_may.2 (List.all_eq_true.1 h y hy))).2
end Go.Proofs.YthollkngfibgaaaDoor
namespace Go.Proofs.YthollkngfibgaaaDoor
open Go.RowKit Go.ChangeShapes Go.WideShapes Go.ChangeAt Go.Joins
set_option linter.unusedSimpArgs false
set_option linter.unusedVariables false

theorem own : ownKnob Tryd.prog.godebug = none := by kernel_rfl
theorem laidOut : laidOutB Tryd.prog = true := by kernel_rfl
theorem cells_u32 : Tryd.prog.cellsOf 49 = 1 := by kernel_rfl
theorem readable : Tryd.prog.readableRec 28 = true := by kernel_rfl
theorem typed : 28 < Tryd.prog.types.size := of_decide_eq_true (by kernel_rfl)
set_option maxRecDepth 100000 in
/-- An argument that is limbs, opened. -/
theorem open_nat {H : Type} {enc : TypeId × Value → H} {W : World} {base : Nat} {v : Value} {d : DataW H} {p : List MemPlace} (hv : Value.okWide Tryd.prog W .any base 28 v)
    (h : DataW.Trod enc Tryd.prog W 0 (fun _ => true) true 28 v d p) : ∃ A n c xs, v = .slice A n c ∧ Lim W A n c xs := by
  obtain ⟨A, n, c, rfl⟩ := okWide_slice Tryd.underlying28 hv
  obtain ⟨fuel, hf⟩ := h
  rcases open_ints Tryd.underlying28 Tryd.underlying49 cells_u32 hf with ⟨hcs, hx⟩ | ⟨a, len, cap, zs, hcs, _, hle, hmax, hall, hx, hcell, hwf⟩
  · simp [Value.cells] at hcs
    obtain ⟨rfl, rfl, rfl⟩ := hcs
    exact ⟨none, 0, 0, [], rfl, Lim.none_ _ _ _ (Nat.zero_le _)⟩
  · simp [Value.cells] at hcs
    obtain ⟨rfl, rfl, rfl⟩ := hcs
    simp only [if_true] at hall
    unfold maxLen at hmax
    refine ⟨_, _, _, (zs.take n).map Int.toNat, rfl, by simp; omega, hle, hmax, fun j hj => ⟨_, rfl, ?_⟩, ?_⟩
    · have hj' : j < n ∧ j < zs.length := by simp at hj; omega
      rw [hcell j hj'.2]
      have hb := bounds_u32 (hwf _ (List.getElem_mem hj'.2))
      have e : zs.getD j 0 = zs[j] := by simp [List.getD, List.getElem?_eq_getElem hj'.2]
      rw [e]
      simp only [List.getElem_map, List.getElem_take]
      exact congrArg (fun z => some (Value.int .u32 z)) (by omega)
    · intro x hx
      rw [List.mem_map] at hx
      obtain ⟨z, hz, rfl⟩ := hx
      have hb := bounds_u32 (hwf z (List.mem_of_mem_take hz))
      omega

section
variable {H : Type} {enc : TypeId × Value → H} {P : Program}
/-- The row's last step: the arguments read as they did. -/
theorem post_args {f : Func} {s : ChangeSpec} {apart : Bool} {W W' : World} {args : Array Value} {v : Value} {ds gs : List (DataW H)} {before : List MemPlace}
    (hW : DataW.Whole enc P f.params.toList s.vars apart W args.toList ds gs before)
    (hres : ∀ (b : Nat) (sp : Nat → Bool) (hd : Bool), DataW.TrodAll enc P W' b sp hd f.resultTypes.toList (v.resultList f.resultTypes.size) (s.fn H (ds ++ gs)).results [])
    (hargs : DataW.TrodAll enc P W' 0 (fun b => decide (b < W.heap.size)) true f.params.toList args.toList (s.fn H (ds ++ gs)).args before)
    (hvars : ∀ sp : Nat → Bool, DataW.TrodVars enc P W' sp s.vars (s.fn H (ds ++ gs)).vars [])
    (hb : Below W.heap.size W W') : s.post enc P f apart true false false W args v W' :=
  ⟨ds, gs, before, [], before, [], hW, hres _ _ _, hargs, hvars _, hb.frame _, fun h => by cases h⟩
end
end Go.Proofs.YthollkngfibgaaaDoor
namespace Go.Proofs.YthollkngfibgaaaDoor
open Go.RowKit Go.ChangeShapes Go.WideShapes Go.ChangeAt Go.Joins
set_option linter.unusedSimpArgs false
set_option linter.unusedVariables false
theorem cells_item : Tryd.prog.cellsOf 24 = 3 := by kernel_rfl
theorem readable_item : Tryd.prog.readableRec 24 = true := by kernel_rfl
theorem typed_item : 24 < Tryd.prog.types.size := of_decide_eq_true (by kernel_rfl)
theorem readable_items : Tryd.prog.readableRec 39 = true := by kernel_rfl
theorem typed_items : 39 < Tryd.prog.types.size := of_decide_eq_true (by kernel_rfl)
theorem readable_word : Tryd.prog.readableRec 22 = true := by kernel_rfl
theorem typed_word : 22 < Tryd.prog.types.size := of_decide_eq_true (by kernel_rfl)
theorem readable_half : Tryd.prog.readableRec 49 = true := by kernel_rfl
theorem typed_half : 49 < Tryd.prog.types.size := of_decide_eq_true (by kernel_rfl)
theorem readable_int : Tryd.prog.readableRec 3 = true := by kernel_rfl
theorem typed_int : 3 < Tryd.prog.types.size := of_decide_eq_true (by kernel_rfl)
section
variable {H : Type} {enc : TypeId × Value → H} {W : World} {base : Nat} {v : Value} {d : DataW H} {p : List MemPlace}
set_option maxRecDepth 100000 in
theorem open_word (hv : Value.okWide Tryd.prog W .any base 22 v) (h : DataW.Trod enc Tryd.prog W 0 (fun _ => true) true 22 v d p) : ∃ x : Nat, v = .int .u64 (x : Int) ∧ x < 18446744073709551616 := by
  obtain ⟨x, rfl, rfl, rfl, wx⟩ := open_int Tryd.underlying22 hv h
  have hb := bounds_u64 wx
  exact ⟨x.toNat, congrArg (Value.int .u64) (by omega), by omega⟩
set_option maxRecDepth 100000 in
theorem open_half (hv : Value.okWide Tryd.prog W .any base 49 v) (h : DataW.Trod enc Tryd.prog W 0 (fun _ => true) true 49 v d p) : ∃ x : Nat, v = .int .u32 (x : Int) ∧ x < 4294967296 := by
  obtain ⟨x, rfl, rfl, rfl, wx⟩ := open_int Tryd.underlying49 hv h
  have hb := bounds_u32 wx
  exact ⟨x.toNat, congrArg (Value.int .u32) (by omega), by omega⟩
set_option maxRecDepth 100000 in
theorem open_i64 (hv : Value.okWide Tryd.prog W .any base 3 v) (h : DataW.Trod enc Tryd.prog W 0 (fun _ => true) true 3 v d p) : ∃ x : Int, v = .int .i64 x ∧ -9223372036854775808 ≤ x ∧ x ≤ 9223372036854775807 := by
  obtain ⟨x, rfl, rfl, rfl, wx⟩ := open_int Tryd.underlying3 hv h
  exact ⟨x, rfl, bounds_i64 wx⟩
set_option maxRecDepth 100000 in
theorem open_item (hv : Value.okWide Tryd.prog W .any base 24 v) (h : DataW.Trod enc Tryd.prog W 0 (fun _ => true) true 24 v d p) : ∃ x : It, v = itv x ∧ x.Fit := by
  obtain ⟨c0, c1, c2, y0, y1, y2, m, rfl, rfl, rfl, h0, h1, h2⟩ := open_agg3 Tryd.underlying24 (by kernel_rfl) cells_item hv h
  obtain ⟨k, e0, -, -⟩ := DataW.trod_string Tryd.underlying9 h0
  obtain ⟨a, e1, -, wa⟩ := DataW.trod_int Tryd.underlying22 h1
  obtain ⟨b, e2, -, wb⟩ := DataW.trod_int Tryd.underlying22 h2
  simp at e0 e1 e2
  subst e0 e1 e2
  have x1 := bounds_u64 wa
  have x2 := bounds_u64 wb
  exact ⟨⟨k, a.toNat, b.toNat⟩, by rw [itv, Int.toNat_of_nonneg x1.1, Int.toNat_of_nonneg x2.1], by dsimp only; omega, by dsimp only; omega⟩
set_option maxRecDepth 100000 in
theorem open_items (hv : Value.okWide Tryd.prog W .any base 39 v) (h : DataW.Trod enc Tryd.prog W 0 (fun _ => true) true 39 v d p) : ∃ A n c l, v = .slice A n c ∧ Its W A n c l := by
  obtain ⟨A, n, c, rfl⟩ := okWide_slice Tryd.underlying39 hv
  obtain ⟨fuel, hf⟩ := h
  rcases Go.Deep.open_slice Tryd.underlying39 hf with ⟨hcs, -⟩ | ⟨a, len, cap, m, nn, D, Pl, hcs, -, hle, hmax, hm, -, hx⟩
  · simp [Value.cells] at hcs
    obtain ⟨rfl, rfl, rfl⟩ := hcs
    exact ⟨none, 0, 0, [], rfl, Its.none_ _ _ _ rfl (by decide)⟩
  · simp [Value.cells] at hcs
    obtain ⟨rfl, rfl, rfl⟩ := hcs
    simp only [if_true] at hm
    subst hm
    unfold maxLen at hmax
    have each : ∀ i, i < n → ∃ x : It, x.Fit ∧ W.cell? (a.add (i * 3)) = some (.string x.k) ∧ W.cell? (a.add (i * 3 + 1)) = some (.int .u64 (x.u : Int)) ∧ W.cell? (a.add (i * 3 + 2)) = some (.int .u64 (x.w : Int)) := by
      intro i hi
      obtain ⟨cs', h1, h2⟩ := hx i (by omega)
      rw [cells_item] at h1
      obtain ⟨_, hlen, hcell⟩ := World.cells?_some h1
      obtain ⟨y0, y1, y2, k, -, -, g0, g1, g2⟩ := Go.Deep.trod_struct3 Tryd.underlying24 h2
      match cs', hlen with
      | [v0, v1, v2], _ =>
        have k0 := hcell 0 (by omega)
        have k1 := hcell 1 (by omega)
        have k2 := hcell 2 (by omega)
        rw [Go.Deep.add_add] at k0 k1 k2
        obtain ⟨s, e0, -, -⟩ := DataW.trod_string Tryd.underlying9 g0
        obtain ⟨b1, e1, -, w1⟩ := DataW.trod_int Tryd.underlying22 g1
        obtain ⟨b2, e2, -, w2⟩ := DataW.trod_int Tryd.underlying22 g2
        rw [show Tryd.prog.cellsOf 9 = 1 by kernel_rfl] at e0
        rw [show Tryd.prog.cellsOf 22 = 1 by kernel_rfl] at e1 e2
        simp at e0 e1 e2
        subst e0 e1 e2
        have x1 := bounds_u64 w1
        have x2 := bounds_u64 w2
        refine ⟨⟨s, b1.toNat, b2.toNat⟩, ⟨by dsimp only; omega, by dsimp only; omega⟩, ?_, ?_, ?_⟩
        · simpa using k0
        · dsimp only; rw [Int.toNat_of_nonneg x1.1]; simpa using k1
        · dsimp only; rw [Int.toNat_of_nonneg x2.1]; simpa using k2
    let f : Nat → It := fun i => open Classical in if h : i < n then Classical.choose (each i h) else ⟨⟨#[]⟩, 0, 0⟩
    have hfi : ∀ i (h : i < n), f i = Classical.choose (each i h) := fun i h => dif_pos h
    refine ⟨_, _, _, (List.range n).map f, rfl, by simp, hle, hmax, fun j hj => ⟨_, rfl, ?_⟩, fun x hxm => ?_⟩
    · have hj' : j < n := by simpa using hj
      have sp := Classical.choose_spec (each j hj')
      simp only [List.getElem_map, List.getElem_range, hfi j hj']
      exact sp.2
    · rw [List.mem_map] at hxm
      obtain ⟨j, hj, rfl⟩ := hxm
      have hj' : j < n := by simpa using hj
      rw [hfi j hj']
      exact (Classical.choose_spec (each j hj')).1
end
end Go.Proofs.YthollkngfibgaaaDoor
namespace Go.Proofs.YthollkngfibgaaaDoor
/-- The same items; those that are equal, as they came. -/
structure Keeps (l s : List It) : Prop where
  perm : s.Perm l
  cls : ∀ z, 0 < z.w → Cls z s = Cls z l
section
variable {l s t l' s' X Y : List It}
theorem Keeps.refl (l : List It) : Keeps l l := ⟨.refl _, fun _ _ => rfl⟩
theorem Keeps.trans (h : Keeps l s) (k : Keeps s t) : Keeps l t := ⟨k.perm.trans h.perm, fun z hz => (k.cls z hz).trans (h.cls z hz)⟩
theorem Keeps.may (h : Keeps l s) (m : May l) : May s := fun y hy => m y (h.perm.mem_iff.1 hy)
theorem Keeps.len (h : Keeps l s) : s.length = l.length := h.perm.length_eq
theorem Keeps.app (h : Keeps l s) (k : Keeps l' s') : Keeps (l ++ l') (s ++ s') := ⟨h.perm.append k.perm, fun z hz => by rw [Cls_app, Cls_app, h.cls z hz, k.cls z hz]⟩
theorem IsSort.keeps (h : IsSort l s) : Keeps l s := ⟨h.perm, h.cls⟩
theorem Keeps.sort (h : Keeps l s) (k : Sorted s) : IsSort l s := ⟨k, h.perm, h.cls⟩
theorem May.app (h : May l) (k : May s) : May (l ++ s) := fun y hy => (List.mem_append.1 hy).elim (h y) (k y)
theorem May.left (h : May (l ++ s)) : May l := fun y hy => h y (List.mem_append_left _ hy)
theorem May.right (h : May (l ++ s)) : May s := fun y hy => h y (List.mem_append_right _ hy)
/-- Two stretches change places, each of the second ahead of each of the first. -/
theorem Keeps.turn (mx : May X) (my : May Y) (h : ∀ x ∈ X, ∀ y ∈ Y, cmpI y x < 0) : Keeps (X ++ Y) (Y ++ X) :=
  ⟨List.perm_append_comm, fun z hz => by simpa using Cls_swap [] X Y [] mx my h z hz⟩
end
theorem Sorted.left {s t : List It} (h : Sorted (s ++ t)) : Sorted s := (List.pairwise_append.1 h).1
theorem Sorted.right {s t : List It} (h : Sorted (s ++ t)) : Sorted t := (List.pairwise_append.1 h).2.1
theorem Sorted.cross {s t : List It} (h : Sorted (s ++ t)) : ∀ x ∈ s, ∀ y ∈ t, cmpI x y ≤ 0 := (List.pairwise_append.1 h).2.2
theorem Sorted.mk {s t : List It} (h : Sorted s) (k : Sorted t) (c : ∀ x ∈ s, ∀ y ∈ t, cmpI x y ≤ 0) : Sorted (s ++ t) := List.pairwise_append.2 ⟨h, k, c⟩
theorem sorted_short {s : List It} (h : s.length ≤ 1) : Sorted s := by
  match s, h with
  | [], _ => exact .nil
  | [x], _ => exact List.pairwise_singleton _ _
/-- What stands at a place. -/
@[irreducible] def nth (s : List It) (i : Nat) : It := s.getD i ⟨⟨#[]⟩, 0, 0⟩
theorem nth_eq {s : List It} {i : Nat} (h : i < s.length) : nth s i = s[i] := by unfold nth; rw [List.getD_eq_getElem?_getD, List.getElem?_eq_getElem h]; rfl
theorem nth_some {s : List It} {i : Nat} {x : It} (h : s[i]? = some x) : nth s i = x := by unfold nth; rw [List.getD_eq_getElem?_getD, h]; rfl
theorem nth_mid (X Y : List It) (x : It) : nth (X ++ x :: Y) X.length = x := nth_some (by simp)
theorem nth_right (X Y : List It) (i : Nat) : nth (X ++ Y) (X.length + i) = nth Y i := by
  unfold nth; rw [List.getD_eq_getElem?_getD, List.getD_eq_getElem?_getD, List.getElem?_append_right (by omega), show X.length + i - X.length = i by omega]
theorem nth_left {X : List It} (Y : List It) {i : Nat} (h : i < X.length) : nth (X ++ Y) i = nth X i := by
  unfold nth; rw [List.getD_eq_getElem?_getD, List.getD_eq_getElem?_getD, List.getElem?_append_left h]
theorem nth_mem {s : List It} {i : Nat} (h : i < s.length) : nth s i ∈ s := by rw [nth_eq h]; exact List.getElem_mem h
/-- Two places change what stands there. -/
def swp (s : List It) (i j : Nat) : List It := (s.set i (nth s j)).set j (nth s i)
theorem swp_len (s : List It) (i j : Nat) : (swp s i j).length = s.length := by simp [swp]
theorem swp_comm (s : List It) (i j : Nat) : swp s i j = swp s j i := by
  unfold swp
  by_cases h : i = j
  · subst h; rfl
  · rw [List.set_comm _ _ h]
theorem swp_app (X Y Z : List It) (x y : It) {i j : Nat} (hi : i = X.length) (hj : j = X.length + 1 + Y.length) : swp (X ++ x :: (Y ++ y :: Z)) i j = X ++ y :: (Y ++ x :: Z) := by
  subst hi hj
  have e1 : nth (X ++ x :: (Y ++ y :: Z)) X.length = x := nth_mid ..
  have e2 : nth (X ++ x :: (Y ++ y :: Z)) (X.length + 1 + Y.length) = y := by
    rw [show X.length + 1 + Y.length = X.length + (1 + Y.length) by omega, nth_right]
    have := nth_mid (x :: Y) Z y
    simpa [Nat.add_comm] using this
  unfold swp
  rw [e1, e2]
  rw [List.set_append_right _ _ (Nat.le_refl _), Nat.sub_self, List.set_cons_zero, List.set_append_right _ _ (by omega), show X.length + 1 + Y.length - X.length = Y.length + 1 by omega, List.set_cons_succ, List.set_append_right _ _ (Nat.le_refl _), Nat.sub_self, List.set_cons_zero]
theorem swp_next (X Z : List It) (x y : It) {i j : Nat} (hi : i = X.length) (hj : j = X.length + 1) : swp (X ++ x :: y :: Z) i j = X ++ y :: x :: Z := swp_app X [] Z x y hi (by simpa using hj)
theorem mem_swp {s : List It} {i j : Nat} {x : It} (hi : i < s.length) (hj : j < s.length) (h : x ∈ swp s i j) : x ∈ s := by
  unfold swp at h
  rcases List.mem_or_eq_of_mem_set h with h | rfl
  · rcases List.mem_or_eq_of_mem_set h with h | rfl
    · exact h
    · exact nth_mem hj
  · exact nth_mem hi

/-- Of what is in order each stands ahead of what is behind it. -/
theorem Sorted.at_ {s : List It} (h : Sorted s) {i j : Nat} (hij : i < j) (hj : j < s.length) : cmpI (nth s i) (nth s j) ≤ 0 := by
  rw [nth_eq hj, nth_eq (by omega)]
  exact List.pairwise_iff_getElem.1 h i j (by omega) hj hij
theorem Sorted.take {s : List It} (h : Sorted s) (k : Nat) : Sorted (s.take k) := List.Pairwise.sublist (List.take_sublist _ _) h
theorem Sorted.drop {s : List It} (h : Sorted s) (k : Nat) : Sorted (s.drop k) := List.Pairwise.sublist (List.drop_sublist _ _) h
/-- All up to a place: no farther than what stands there. -/
theorem Sorted.upto {s : List It} (h : Sorted s) (m : May s) {z : It} (hz : 0 < z.w) {k : Nat} (hk : k < s.length) (c : cmpI (nth s k) z ≤ 0) : ∀ x ∈ s.take (k + 1), cmpI x z ≤ 0 := by
  intro x hx
  obtain ⟨i, hi, rfl⟩ := List.mem_iff_getElem.1 hx
  rw [List.getElem_take]
  have hi2 : i < k + 1 := by rw [List.length_take] at hi; omega
  by_cases e : i = k
  · subst e; rw [← nth_eq hk]; exact c
  · have := h.at_ (show i < k by omega) hk
    rw [nth_eq (show i < s.length by omega)] at this
    refine cmpI_trans ?_ hz (m _ (List.getElem_mem _)) this c
    rw [nth_eq hk]; exact m _ (List.getElem_mem _)
theorem cmpI_lt_trans {a b c : It} (hb : 0 < b.w) (hc : 0 < c.w) (ha : 0 < a.w) (h : cmpI a b ≤ 0) (k : cmpI b c < 0) : cmpI a c < 0 := by
  have q := cmpI_trans hb hc ha h (by omega)
  by_cases e : cmpI a c = 0
  · exfalso
    have c1 := cmpI_anti a c
    have := cmpI_trans ha hb hc (a := c) (b := a) (c := b) (by omega) h
    have c2 := cmpI_anti b c
    omega
  · omega
theorem cmpI_trans_lt {a b c : It} (hb : 0 < b.w) (hc : 0 < c.w) (ha : 0 < a.w) (h : cmpI a b < 0) (k : cmpI b c ≤ 0) : cmpI a c < 0 := by
  have q := cmpI_trans hb hc ha (by omega) k
  by_cases e : cmpI a c = 0
  · exfalso
    have c1 := cmpI_anti a c
    have := cmpI_trans hc ha hb (a := b) (b := c) (c := a) k (by omega)
    have c2 := cmpI_anti a b
    omega
  · omega
theorem Sorted.upto_lt {s : List It} (h : Sorted s) (m : May s) {z : It} (hz : 0 < z.w) {k : Nat} (hk : k < s.length) (c : cmpI (nth s k) z < 0) : ∀ x ∈ s.take (k + 1), cmpI x z < 0 := by
  intro x hx
  obtain ⟨i, hi, rfl⟩ := List.mem_iff_getElem.1 hx
  rw [List.getElem_take]
  have hi2 : i < k + 1 := by rw [List.length_take] at hi; omega
  by_cases e : i = k
  · subst e; rw [← nth_eq hk]; exact c
  · have := h.at_ (show i < k by omega) hk
    rw [nth_eq (show i < s.length by omega)] at this
    refine cmpI_lt_trans ?_ hz (m _ (List.getElem_mem _)) this c
    rw [nth_eq hk]; exact m _ (List.getElem_mem _)
/-- All from a place on. -/
theorem Sorted.from_ {s : List It} (h : Sorted s) (m : May s) {z : It} (hz : 0 < z.w) {k : Nat} (hk : k < s.length) (c : cmpI z (nth s k) ≤ 0) : ∀ x ∈ s.drop k, cmpI z x ≤ 0 := by
  intro x hx
  obtain ⟨i, hi, rfl⟩ := List.mem_iff_getElem.1 hx
  rw [List.getElem_drop]
  rw [List.length_drop] at hi
  by_cases e : i = 0
  · subst e; rw [← nth_eq (show k + 0 < s.length by omega)]; exact c
  · have := h.at_ (show k < k + i by omega) (by omega)
    rw [nth_eq (show k + i < s.length by omega)] at this
    refine cmpI_trans ?_ (m _ (List.getElem_mem _)) hz c this
    rw [nth_eq hk]; exact m _ (List.getElem_mem _)
theorem Sorted.from_lt {s : List It} (h : Sorted s) (m : May s) {z : It} (hz : 0 < z.w) {k : Nat} (hk : k < s.length) (c : cmpI z (nth s k) < 0) : ∀ x ∈ s.drop k, cmpI z x < 0 := by
  intro x hx
  obtain ⟨i, hi, rfl⟩ := List.mem_iff_getElem.1 hx
  rw [List.getElem_drop]
  rw [List.length_drop] at hi
  by_cases e : i = 0
  · subst e; rw [← nth_eq (show k + 0 < s.length by omega)]; exact c
  · have := h.at_ (show k < k + i by omega) (by omega)
    rw [nth_eq (show k + i < s.length by omega)] at this
    refine cmpI_trans_lt ?_ (m _ (List.getElem_mem _)) hz c this
    rw [nth_eq hk]; exact m _ (List.getElem_mem _)

/-- Both parts of two stretches in order, merged each for itself: all of it merged. -/
theorem merge_parts {U1 U2 V1 V2 W1 W2 : List It} (su : Sorted (U1 ++ U2)) (sv : Sorted (V1 ++ V2)) (m : May ((U1 ++ U2) ++ (V1 ++ V2)))
    (c1 : ∀ x ∈ U1, ∀ y ∈ V2, cmpI x y ≤ 0) (c2 : ∀ x ∈ U2, ∀ y ∈ V1, cmpI y x < 0) (h1 : IsSort (U1 ++ V1) W1) (h2 : IsSort (U2 ++ V2) W2) : IsSort ((U1 ++ U2) ++ (V1 ++ V2)) (W1 ++ W2) := by
  have mU1 := m.left.left; have mU2 := m.left.right; have mV1 := m.right.left; have mV2 := m.right.right
  have k : Keeps ((U1 ++ U2) ++ (V1 ++ V2)) ((U1 ++ V1) ++ (U2 ++ V2)) := by
    have := (Keeps.refl U1).app ((Keeps.turn mU2 mV1 c2).app (Keeps.refl V2))
    simpa only [List.append_assoc] using this
  refine (k.trans (h1.keeps.app h2.keeps)).sort (h1.sorted.mk h2.sorted fun x hx y hy => ?_)
  rcases List.mem_append.1 (h1.perm.mem_iff.1 hx) with hx | hx <;> rcases List.mem_append.1 (h2.perm.mem_iff.1 hy) with hy | hy
  · exact su.cross x hx y hy
  · exact c1 x hx y hy
  · exact Int.le_of_lt (c2 y hy x hx)
  · exact sv.cross x hx y hy
theorem isSort_of_sorted {s : List It} (h : Sorted s) : IsSort s s := (Keeps.refl s).sort h

/-! The search of symMerge. -/
/-- It goes on. -/
def Low (s : List It) (p c : Nat) : Prop := ¬ cmpI (nth s (p - c)) (nth s c) < 0
theorem nth_u (P U V Q : List It) {i : Nat} (h : i < U.length) : nth (P ++ (U ++ (V ++ Q))) (P.length + i) = nth U i := by rw [nth_right, nth_left _ h]
theorem nth_v (P U V Q : List It) {i : Nat} (h : i < V.length) : nth (P ++ (U ++ (V ++ Q))) (P.length + U.length + i) = nth V i := by
  rw [show P.length + U.length + i = P.length + (U.length + i) by omega, nth_right, nth_right, nth_left _ h]
/-- Where the search ends: what is ahead of it on the left stands not behind what is behind it on the right; what is behind on the left stands behind what is ahead on the right. -/
theorem search_end {P U V Q : List It} (su : Sorted U) (sv : Sorted V) (mu : May U) (mv : May V) {mid n p st s0 r0 : Nat} (hmid : mid = (P.length + (P.length + U.length + V.length)) / 2) (hn : n = mid + (P.length + U.length)) (hp : p = n - 1)
    (hs0 : s0 = if P.length + U.length > mid then n - (P.length + U.length + V.length) else P.length) (hr0 : r0 = if P.length + U.length > mid then mid else P.length + U.length)
    (h0 : s0 ≤ st) (h1 : st ≤ r0) (a : st = s0 ∨ Low (P ++ (U ++ (V ++ Q))) p (st - 1)) (b : st = r0 ∨ ¬ Low (P ++ (U ++ (V ++ Q))) p st) :
    (∀ x ∈ U.take (st - P.length), ∀ y ∈ V.drop (mid - st), cmpI x y ≤ 0) ∧ ∀ x ∈ U.drop (st - P.length), ∀ y ∈ V.take (mid - st), cmpI y x < 0 := by
  generalize hs : P ++ (U ++ (V ++ Q)) = s at *
  have e0 : P.length ≤ s0 ∧ s0 ≤ r0 ∧ r0 ≤ mid ∧ r0 ≤ P.length + U.length ∧ (s0 = P.length ∨ s0 + V.length = mid) ∧ (r0 = mid ∨ r0 = P.length + U.length) ∧ mid ≤ s0 + V.length := by
    rw [hs0, hr0]; split <;> omega
  obtain ⟨f1, f2, f3, f4, f5, f6, f7⟩ := e0
  clear hs0 hr0
  constructor
  · rcases a with a | a
    · rcases f5 with f | f
      · rw [show st - P.length = 0 by omega, List.take_zero]; intro x hx; exact absurd hx (by simp)
      · rw [List.drop_eq_nil_of_le (by omega)]; intro x _ y hy; exact absurd hy (by simp)
    · by_cases es : st = s0
      · rcases f5 with f | f
        · rw [show st - P.length = 0 by omega, List.take_zero]; intro x hx; exact absurd hx (by simp)
        · rw [List.drop_eq_nil_of_le (by omega)]; intro x _ y hy; exact absurd hy (by simp)
      · unfold Low at a
        have q1 : nth s (p - (st - 1)) = nth V (mid - st) := by
          rw [← hs, show p - (st - 1) = P.length + U.length + (mid - st) by omega]; exact nth_v _ _ _ _ (by omega)
        have q2 : nth s (st - 1) = nth U (st - 1 - P.length) := by
          rw [← hs, show st - 1 = P.length + (st - 1 - P.length) by omega, nth_u _ _ _ _ (by omega)]; rw [show P.length + (st - 1 - P.length) - P.length = st - 1 - P.length by omega]
        rw [q1, q2] at a
        have a := cmpI_ge a
        intro x hx y hy
        have hx' : x ∈ U.take (st - 1 - P.length + 1) := by rw [show st - 1 - P.length + 1 = st - P.length by omega]; exact hx
        have wv : 0 < (nth V (mid - st)).w := mv _ (nth_mem (by omega))
        have x1 := su.upto mu wv (k := st - 1 - P.length) (by omega) a x hx'
        have y1 := sv.from_ mv (z := x) (mu _ (List.mem_of_mem_take hx)) (k := mid - st) (by omega) x1 y hy
        exact y1
  · by_cases es : st = r0
    · rcases f6 with f | f
      · rw [show mid - st = 0 by omega, List.take_zero]; intro x _ y hy; exact absurd hy (by simp)
      · rw [List.drop_eq_nil_of_le (by omega)]; intro x hx; exact absurd hx (by simp)
    · have b := b.resolve_left es
      unfold Low at b
      have q1 : nth s (p - st) = nth V (mid - st - 1) := by
        rw [← hs, show p - st = P.length + U.length + (mid - st - 1) by omega]; exact nth_v _ _ _ _ (by omega)
      have q2 : nth s st = nth U (st - P.length) := by
        rw [← hs, show st = P.length + (st - P.length) by omega, nth_u _ _ _ _ (by omega)]; rw [show P.length + (st - P.length) - P.length = st - P.length by omega]
      rw [q1, q2] at b
      have b : cmpI (nth V (mid - st - 1)) (nth U (st - P.length)) < 0 := by
        by_cases e : cmpI (nth V (mid - st - 1)) (nth U (st - P.length)) < 0
        · exact e
        · exact absurd e b
      intro x hx y hy
      have hy' : y ∈ V.take (mid - st - 1 + 1) := by rw [show mid - st - 1 + 1 = mid - st by omega]; exact hy
      have wu : 0 < (nth U (st - P.length)).w := mu _ (nth_mem (by omega))
      have y1 := sv.upto_lt mv wu (k := mid - st - 1) (by omega) b y hy'
      exact su.from_lt mu (z := y) (mv _ (List.mem_of_mem_take hy)) (k := st - P.length) (by omega) y1 x hx
end Go.Proofs.YthollkngfibgaaaDoor
namespace Go.Proofs.YthollkngfibgaaaDoor
open Go.RowKit
set_option linter.unusedVariables false
set_option linter.unusedSimpArgs false
/-- At ad lie the items s; they may be written. -/
structure Row3 (W : World) (ad : Addr) (s : List It) : Prop where
  own : ∃ cs t, W.heap[ad.block]? = some (.cells cs t (0, 0)) ∧ ∀ i u, (icells s)[i]? = some u → cs[ad.off + i]? = some u
  el : ad = ⟨ad.block, ad.off, none⟩
  fit : ∀ x ∈ s, x.Fit
theorem add_at {ad : Addr} (h : ad = ⟨ad.block, ad.off, none⟩) (k : Nat) : ad.add k = ⟨ad.block, ad.off + k, none⟩ := by
  obtain ⟨b, o, sp⟩ := ad
  injection h with _ _ h
  subst h
  unfold Addr.add
  split
  · rename_i e; subst e; rfl
  · rfl
/-- A store of an item at p. -/
def put3 (W : World) (p : Addr) (x : It) : World :=
  ((W.setCell p (.string x.k)).setCell ⟨p.block, p.off + 1, none⟩ (.int .u64 (x.u : Int))).setCell ⟨p.block, p.off + 2, none⟩ (.int .u64 (x.w : Int))
section
variable {w W W' : World} {ad : Addr} {s : List It}
theorem Row3.lt (h : Row3 W ad s) : ad.block < W.heap.size := by obtain ⟨_, _, h, _⟩ := h.own; exact (Array.getElem?_eq_some_iff.1 h).1
theorem Row3.cell (h : Row3 W ad s) {j : Nat} (hj : j < s.length) :
    W.cell? (ad.add (j * 3)) = some (.string (nth s j).k) ∧ W.cell? ⟨(ad.add (j * 3)).block, (ad.add (j * 3)).off + 1, none⟩ = some (.int .u64 ((nth s j).u : Int)) ∧ W.cell? ⟨(ad.add (j * 3)).block, (ad.add (j * 3)).off + 2, none⟩ = some (.int .u64 ((nth s j).w : Int)) := by
  obtain ⟨cs, t, e, hc⟩ := h.own
  obtain ⟨a0, a1, a2⟩ := icells_at s j hj
  rw [add_next, add_next2, add_at h.el, add_at h.el, add_at h.el, nth_eq hj]
  refine ⟨?_, ?_, ?_⟩
  · have := hc _ _ a0; simp [World.cell?, e, this]
  · have := hc _ _ a1; simp [World.cell?, e, this]
  · have := hc _ _ a2; simp [World.cell?, e, this]
theorem Row3.melt (h : Row3 W ad s) (p : Addr) (hp : p.block = ad.block) : W.frozen? p = false := by
  obtain ⟨cs, t, e, hc⟩ := h.own
  simp [World.frozen?, hp, e]
theorem blk_add (h : ad = ⟨ad.block, ad.off, none⟩) (k : Nat) : (ad.add k).block = ad.block := by rw [add_at h]
theorem Row3.ft (h : Row3 W ad s) {j : Nat} (hj : j < s.length) : (nth s j).Fit := h.fit _ (nth_mem hj)
theorem Row3.next (h : Row3 W ad s) (hb : Below W.heap.size W W') : Row3 W' ad s := by
  refine ⟨?_, h.el, h.fit⟩
  have l := h.lt
  obtain ⟨cs, t, e, hc⟩ := h.own
  exact ⟨cs, t, (hb.block _ l).trans e, hc⟩
theorem Row3.drew (h : Row3 W ad s) : Row3 W.drew ad s := ⟨h.own, h.el, h.fit⟩
theorem Row3.its (h : Row3 W ad s) {n c : Nat} (hn : s.length = n) (hc : n ≤ c) (ht : c ≤ 9223372036854775807) : Its W (some ad) n c s := by
  refine ⟨hn, hc, ht, fun j hj => ⟨ad, rfl, ?_⟩, h.fit⟩
  obtain ⟨a, b, c⟩ := h.cell hj
  rw [add_next] at b; rw [add_next2] at c
  rw [nth_eq hj] at a b c
  exact ⟨a, b, c⟩
theorem icells_set {s : List It} {j : Nat} {x : It} (hj : j < s.length) {i : Nat} {u : Value} (h : (icells (s.set j x))[i]? = some u) :
    (i = j * 3 ∧ u = .string x.k) ∨ (i = j * 3 + 1 ∧ u = .int .u64 (x.u : Int)) ∨ (i = j * 3 + 2 ∧ u = .int .u64 (x.w : Int)) ∨ (i ≠ j * 3 ∧ i ≠ j * 3 + 1 ∧ i ≠ j * 3 + 2 ∧ (icells s)[i]? = some u) := by
  obtain ⟨j', hj', h⟩ := icells_cell h
  have hj2 : j' < s.length := by simpa using hj'
  obtain ⟨a0, a1, a2⟩ := icells_at s j' hj2
  by_cases e : j = j'
  · subst e
    rw [List.getElem_set_self] at h
    rcases h with h | h | h
    · exact .inl h
    · exact .inr (.inl h)
    · exact .inr (.inr (.inl h))
  · rw [List.getElem_set_ne e] at h
    refine .inr (.inr (.inr ?_))
    rcases h with ⟨rfl, rfl⟩ | ⟨rfl, rfl⟩ | ⟨rfl, rfl⟩
    · exact ⟨by omega, by omega, by omega, a0⟩
    · exact ⟨by omega, by omega, by omega, a1⟩
    · exact ⟨by omega, by omega, by omega, a2⟩
theorem Row3.put (h : Row3 W ad s) {j : Nat} (hj : j < s.length) {x : It} (hx : x.Fit) : Row3 (put3 W (ad.add (j * 3)) x) ad (s.set j x) := by
  obtain ⟨cs, t, e, hc⟩ := h.own
  have hel := h.el
  have hf : ∀ y ∈ s.set j x, y.Fit := fun y hy => (List.mem_or_eq_of_mem_set hy).elim (h.fit y) (fun e => e ▸ hx)
  obtain ⟨a0, a1, a2⟩ := icells_at s j hj
  have b0 := (Array.getElem?_eq_some_iff.1 (hc _ _ a0)).1
  have b1 := (Array.getElem?_eq_some_iff.1 (hc _ _ a1)).1
  have b2 := (Array.getElem?_eq_some_iff.1 (hc _ _ a2)).1
  refine ⟨⟨((cs.setIfInBounds (ad.off + j * 3) (.string x.k)).setIfInBounds (ad.off + j * 3 + 1) (.int .u64 (x.u : Int))).setIfInBounds (ad.off + j * 3 + 2) (.int .u64 (x.w : Int)), t, ?_, ?_⟩, hel, hf⟩
  · unfold put3
    rw [add_at hel]
    simp [World.setCell, Array.getElem?_modify, e]
  · intro i u hu
    rcases icells_set hj hu with ⟨rfl, rfl⟩ | ⟨rfl, rfl⟩ | ⟨rfl, rfl⟩ | ⟨n0, n1, n2, hu⟩
    · rw [Array.getElem?_setIfInBounds_ne (by omega), Array.getElem?_setIfInBounds_ne (by omega), Array.getElem?_setIfInBounds_self_of_lt (by omega)]
    · rw [show ad.off + (j * 3 + 1) = ad.off + j * 3 + 1 by omega, Array.getElem?_setIfInBounds_ne (by omega), Array.getElem?_setIfInBounds_self_of_lt (by simp; omega)]
    · rw [show ad.off + (j * 3 + 2) = ad.off + j * 3 + 2 by omega, Array.getElem?_setIfInBounds_self_of_lt (by simp; omega)]
    · rw [Array.getElem?_setIfInBounds_ne (by omega), Array.getElem?_setIfInBounds_ne (by omega), Array.getElem?_setIfInBounds_ne (by omega)]
      exact hc _ _ hu
theorem size_put3 (W : World) (p : Addr) (x : It) : (put3 W p x).heap.size = W.heap.size := by simp [put3, World.setCell]
theorem block_put3 (W : World) {p : Addr} (x : It) {k : Nat} (h : k ≠ p.block) : (put3 W p x).heap[k]? = W.heap[k]? := by
  unfold put3
  exact (Below.heap_setCell _ ⟨p.block, p.off + 2, none⟩ _ k h).trans ((Below.heap_setCell _ ⟨p.block, p.off + 1, none⟩ _ k h).trans (Below.heap_setCell _ p _ k h))
/-- The row at ad turns into s; nothing else that was there turns. -/
structure Tr (ad : Addr) (s : List It) (W W' : World) : Prop where
  row : Row3 W' ad s
  os : W'.os = W.os
  tape : W'.tape = W.tape
  output : W'.output = W.output
  size : W.heap.size ≤ W'.heap.size
  block : ∀ k, k < W.heap.size → k ≠ ad.block → W'.heap[k]? = W.heap[k]?
theorem Tr.refl (h : Row3 W ad s) : Tr ad s W W := ⟨h, rfl, rfl, rfl, Nat.le_refl _, fun _ _ _ => rfl⟩
theorem Tr.next {W'' : World} (h : Tr ad s W W') (hb : Below W'.heap.size W' W'') : Tr ad s W W'' :=
  ⟨h.row.next hb, hb.os.trans h.os, hb.tape.trans h.tape, hb.output.trans h.output, Nat.le_trans h.size hb.size, fun k hk hn => (hb.block k (Nat.lt_of_lt_of_le hk h.size)).trans (h.block k hk hn)⟩
theorem Tr.trans {W'' : World} {t : List It} (h : Tr ad s W W') (h' : Tr ad t W' W'') : Tr ad t W W'' :=
  ⟨h'.row, h'.os.trans h.os, h'.tape.trans h.tape, h'.output.trans h.output, Nat.le_trans h.size h'.size, fun k hk hn => (h'.block k (Nat.lt_of_lt_of_le hk h.size) hn).trans (h.block k hk hn)⟩
theorem Tr.drew (h : Tr ad s W W') : Tr ad s W W'.drew := ⟨h.row.drew, h.os, h.tape, h.output, h.size, h.block⟩
theorem Tr.put (h : Tr ad s W W') {j : Nat} (hj : j < s.length) {x : It} (hx : x.Fit) : Tr ad (s.set j x) W (put3 W' (ad.add (j * 3)) x) :=
  ⟨h.row.put hj hx, h.os, h.tape, h.output, by rw [size_put3]; exact h.size, fun k hk hn => (block_put3 _ _ (by rw [blk_add h.row.el]; exact hn)).trans (h.block k hk hn)⟩
/-- Two items change places. -/
theorem Tr.swap (h : Tr ad s W W') {i j : Nat} (hi : i < s.length) (hj : j < s.length) : Tr ad (swp s i j) W (put3 (put3 W' (ad.add (i * 3)) (nth s j)) (ad.add (j * 3)) (nth s i)) :=
  (h.put hi (h.row.ft hj)).put (by simpa using hj) (h.row.ft hi)
theorem Tr.below (h : Tr ad s W W') {B : Nat} (hg : B ≤ ad.block) (hB : B ≤ W.heap.size) : Below B W W' := ⟨h.os, h.tape, h.output, h.size, fun k hk => h.block k (by omega) (by omega)⟩
theorem melt_put3 {W : World} {p q : Addr} {x : It} (h : W.frozen? q = false) : (put3 W p x).frozen? q = false := by
  have one : ∀ (W : World) (p : Addr) (v : Value), (W.setCell p v).frozen? q = W.frozen? q := by
    intro W p v
    unfold World.frozen? World.setCell
    simp only [Array.getElem?_modify]
    by_cases e : p.block = q.block
    · rw [if_pos e]
      cases W.heap[q.block]? with
      | none => rfl
      | some o => cases o <;> rfl
    · rw [if_neg e]
  unfold put3
  rw [one, one, one]; exact h
end
theorem cell_set_ne (W : World) (b o o' : Nat) (v : Value) (h : o ≠ o') : (W.setCell ⟨b, o, none⟩ v).cell? ⟨b, o', none⟩ = W.cell? ⟨b, o', none⟩ := by
  unfold World.cell? World.setCell
  simp only [Array.getElem?_modify, if_true]
  cases W.heap[b]? with
  | none => rfl
  | some x =>
    cases x with
    | cells c e f => simp [h]
    | _ => rfl
/-- What the stores of two items ask of the cells. -/
theorem Row3.stores {W : World} {ad : Addr} {s : List It} (h : Row3 W ad s) {i j : Nat} (hi : i < s.length) (hj : j < s.length) (hij : i ≠ j) (x y : It) :
    (W.setCell (ad.add (i * 3)) (.string y.k)).cell? ⟨(ad.add (i * 3)).block, (ad.add (i * 3)).off + 1, none⟩ = some (.int .u64 ((nth s i).u : Int)) ∧
    ((W.setCell (ad.add (i * 3)) (.string y.k)).setCell ⟨(ad.add (i * 3)).block, (ad.add (i * 3)).off + 1, none⟩ (.int .u64 (y.u : Int))).cell? ⟨(ad.add (i * 3)).block, (ad.add (i * 3)).off + 2, none⟩ = some (.int .u64 ((nth s i).w : Int)) ∧
    (((W.setCell (ad.add (i * 3)) (.string y.k)).setCell ⟨(ad.add (i * 3)).block, (ad.add (i * 3)).off + 1, none⟩ (.int .u64 (y.u : Int))).setCell ⟨(ad.add (i * 3)).block, (ad.add (i * 3)).off + 2, none⟩ (.int .u64 (y.w : Int))).cell? (ad.add (j * 3)) = some (.string (nth s j).k) ∧
    ((((W.setCell (ad.add (i * 3)) (.string y.k)).setCell ⟨(ad.add (i * 3)).block, (ad.add (i * 3)).off + 1, none⟩ (.int .u64 (y.u : Int))).setCell ⟨(ad.add (i * 3)).block, (ad.add (i * 3)).off + 2, none⟩ (.int .u64 (y.w : Int))).setCell (ad.add (j * 3)) (.string x.k)).cell? ⟨(ad.add (j * 3)).block, (ad.add (j * 3)).off + 1, none⟩ = some (.int .u64 ((nth s j).u : Int)) ∧
    (((((W.setCell (ad.add (i * 3)) (.string y.k)).setCell ⟨(ad.add (i * 3)).block, (ad.add (i * 3)).off + 1, none⟩ (.int .u64 (y.u : Int))).setCell ⟨(ad.add (i * 3)).block, (ad.add (i * 3)).off + 2, none⟩ (.int .u64 (y.w : Int))).setCell (ad.add (j * 3)) (.string x.k)).setCell ⟨(ad.add (j * 3)).block, (ad.add (j * 3)).off + 1, none⟩ (.int .u64 (x.u : Int))).cell? ⟨(ad.add (j * 3)).block, (ad.add (j * 3)).off + 2, none⟩ = some (.int .u64 ((nth s j).w : Int)) := by
  obtain ⟨a0, a1, a2⟩ := h.cell hi
  obtain ⟨b0, b1, b2⟩ := h.cell hj
  rw [add_at h.el] at *
  rw [add_at h.el] at *
  dsimp only at *
  refine ⟨?_, ?_, ?_, ?_, ?_⟩
  · rw [cell_set_ne _ _ _ _ _ (by omega)]; exact a1
  · rw [cell_set_ne _ _ _ _ _ (by omega), cell_set_ne _ _ _ _ _ (by omega)]; exact a2
  · rw [cell_set_ne _ _ _ _ _ (by omega), cell_set_ne _ _ _ _ _ (by omega), cell_set_ne _ _ _ _ _ (by omega)]; exact b0
  · rw [cell_set_ne _ _ _ _ _ (by omega), cell_set_ne _ _ _ _ _ (by omega), cell_set_ne _ _ _ _ _ (by omega), cell_set_ne _ _ _ _ _ (by omega)]; exact b1
  · rw [cell_set_ne _ _ _ _ _ (by omega), cell_set_ne _ _ _ _ _ (by omega), cell_set_ne _ _ _ _ _ (by omega), cell_set_ne _ _ _ _ _ (by omega), cell_set_ne _ _ _ _ _ (by omega)]; exact b2
theorem Row3.melts {W : World} {ad : Addr} {s : List It} (h : Row3 W ad s) (k : Nat) : W.frozen? (ad.add k) = false ∧ W.frozen? ⟨(ad.add k).block, (ad.add k).off + 1, none⟩ = false ∧ W.frozen? ⟨(ad.add k).block, (ad.add k).off + 2, none⟩ = false :=
  ⟨h.melt _ (blk_add h.el k), h.melt _ (blk_add h.el k), h.melt _ (blk_add h.el k)⟩
end Go.Proofs.YthollkngfibgaaaDoor
namespace Go.Proofs.YthollkngfibgaaaDoor
open Go.RowKit
set_option linter.unusedVariables false
set_option linter.unusedSimpArgs false
set_option maxHeartbeats 2000000
set_option maxRecDepth 100000
/-- i of both stretches have changed places. -/
def SwR (X U Y V Z : List It) (i : Nat) : List It := X ++ (V.take i ++ (U.drop i ++ (Y ++ (U.take i ++ (V.drop i ++ Z)))))
section
variable {X U Y V Z : List It}
theorem SwR.start : SwR X U Y V Z 0 = X ++ (U ++ (Y ++ (V ++ Z))) := by simp [SwR]
theorem SwR.fin {n : Nat} (hu : U.length = n) (hv : V.length = n) : SwR X U Y V Z n = X ++ (V ++ (Y ++ (U ++ Z))) := by
  unfold SwR
  rw [List.take_of_length_le (by omega), List.take_of_length_le (by omega), List.drop_eq_nil_of_le (by omega), List.drop_eq_nil_of_le (by omega)]
  simp
theorem SwR.len {n i : Nat} (hu : U.length = n) (hv : V.length = n) (hi : i ≤ n) : (SwR X U Y V Z i).length = X.length + n + Y.length + n + Z.length := by
  simp only [SwR, List.length_append, List.length_take, List.length_drop]; omega
theorem SwR.step {n i a b : Nat} (hu : U.length = n) (hv : V.length = n) (hi : i < n) (ha : X.length = a) (hb : X.length + n + Y.length = b) : swp (SwR X U Y V Z i) (a + i) (b + i) = SwR X U Y V Z (i + 1) := by
  have e1 : U.drop i = U[i] :: U.drop (i + 1) := List.drop_eq_getElem_cons (by omega)
  have e2 : V.drop i = V[i] :: V.drop (i + 1) := List.drop_eq_getElem_cons (by omega)
  have e3 : U.take (i + 1) = U.take i ++ [U[i]] := List.take_succ_eq_append_getElem (by omega)
  have e4 : V.take (i + 1) = V.take i ++ [V[i]] := List.take_succ_eq_append_getElem (by omega)
  have e := swp_app (X ++ V.take i) (U.drop (i + 1) ++ (Y ++ U.take i)) (V.drop (i + 1) ++ Z) U[i] V[i] (i := a + i) (j := b + i) (by simp only [List.length_append, List.length_take]; omega) (by simp only [List.length_append, List.length_take, List.length_drop]; omega)
  unfold SwR
  rw [e1, e2, e3, e4]
  simpa only [List.append_assoc, List.cons_append, List.nil_append] using e
end
theorem swapRange_any {ad : Addr} {X U Y V Z : List It} {N c a b n : Nat} {w : World} (F : Value) (h : Row3 w ad (X ++ (U ++ (Y ++ (V ++ Z))))) (hu : U.length = n) (hv : V.length = n) (ha : X.length = a) (hb : X.length + n + Y.length = b) (hN : X.length + n + Y.length + n + Z.length = N) (hs : N ≤ 100000) :
    Calls Tryd.prog 95 #[.slice (some ad) N c, .int .i64 (a : Int), .int .i64 (b : Int), .int .i64 (n : Int), F] w fun e w' => e = .returned (.tuple #[]) ∧ Tr ad (X ++ (V ++ (Y ++ (U ++ Z)))) w w' := by
  have T0 : Hid (Tr ad (SwR X U Y V Z 0) w w) := by unfold Hid; rw [SwR.start]; exact Tr.refl h
  have HU := Lib.hid hu; have HV := Lib.hid hv; have HA := Lib.hid ha; have HB := Lib.hid hb; have HN := Lib.hid hN
  have b1 : b + n ≤ N := by omega
  have b2 : a + n ≤ b := by omega
  clear h hu hv ha hb hN
  go_enter Tryd.func95, Tryd.ntmps95
  go_wp2_with fail
  go_loopg [10] n (fun q s10 wr => ∃ i : Nat, s10 = .int .i64 (i : Int) ∧ i + q = n ∧ Hid (Tr ad (SwR X U Y V Z i) w wr))
  case atStart => exact ⟨0, rfl, by omega, T0.out⟩
  case round =>
    obtain ⟨i, rfl, hq, T⟩ := hrel
    clear T0
    by_cases lt : i < n
    · have i1 : (i : Int) < n := by omega
      have L := SwR.len (X := X) (Y := Y) (Z := Z) HU.out HV.out (Nat.le_of_lt lt)
      rw [HN.out] at L
      obtain ⟨x0, x1, x2⟩ := T.out.row.cell (j := a + i) (by omega)
      obtain ⟨y0, y1, y2⟩ := T.out.row.cell (j := b + i) (by omega)
      have TS : Hid _ := T.out.swap (i := a + i) (j := b + i) (by omega) (by omega)
      rw [SwR.step HU.out HV.out lt HA.out HB.out] at TS
      obtain ⟨fx0, fx1, fx2⟩ := T.out.row.melts ((a + i) * 3)
      obtain ⟨fy0, fy1, fy2⟩ := T.out.row.melts ((b + i) * 3)
      obtain ⟨s1, s2, s3, s4, s5⟩ := T.out.row.stores (i := a + i) (j := b + i) (by omega) (by omega) (by omega) (nth (SwR X U Y V Z i) (a + i)) (nth (SwR X U Y V Z i) (b + i))
      generalize nth (SwR X U Y V Z i) (a + i) = x at *
      generalize nth (SwR X U Y V Z i) (b + i) = y at *
      have p1 : (0 : Int) ≤ ((a + i : Nat) : Int) := by omega
      have p2 : ((a + i : Nat) : Int) < N := by omega
      have p3 : (0 : Int) ≤ ((b + i : Nat) : Int) := by omega
      have p4 : ((b + i : Nat) : Int) < N := by omega
      have q1 : (a : Int) + (i : Int) = ((a + i : Nat) : Int) := by omega
      have q2 : (b : Int) + (i : Int) = ((b + i : Nat) : Int) := by omega
      have w1 : IntKind.i64.wrap ((a + i : Nat) : Int) = ((a + i : Nat) : Int) := by rw [IntKind.wrap_i64]; omega
      have w2 : IntKind.i64.wrap ((b + i : Nat) : Int) = ((b + i : Nat) : Int) := by rw [IntKind.wrap_i64]; omega
      replace TS : Hid _ := TS.out.drew
      have HQ := Lib.hid hq
      clear L hq lt
      generalize a + i = ai at *
      generalize b + i = bi at *
      go_wp2_with fail
      go_region
      clear s1 s2 s3 s4 s5 x0 x1 x2 y0 y1 y2 fx0 fx1 fx2 fy0 fy1 fy2
      go_wp2_with fail
      go_roundg (gk - 1)
      case measure => have := HQ.out; omega
      case rel =>
        go_light
        exact ⟨i + 1, by go_num, by have := HQ.out; omega, TS.out⟩
    · obtain rfl : i = n := by omega
      have i1 : ¬ (i : Int) < i := by omega
      have TS := T.out
      rw [SwR.fin HU.out HV.out] at TS
      replace TS := Lib.hid TS
      clear hq lt
      go_wp2_with fail
      go_end0
      exact ⟨rfl, TS.out⟩
end Go.Proofs.YthollkngfibgaaaDoor
