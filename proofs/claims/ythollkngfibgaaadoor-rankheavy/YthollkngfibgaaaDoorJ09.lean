/- The document's answers: the walk of Gcd. The document's answers: the walk of Mul. The document's answers: the walks of Of, Text. The document's answers: the walk of Text. The document's answers for fractions: Small, Right, Reduce, big; told. -/
import Derived.Test.YthollkngfibgaaaDoorJ08
import Derived.Test.YthollkngfibgaaaDoorJ07
import Derived.Laws.IdiomStrings
namespace Go.Proofs.YthollkngfibgaaaDoor
open Go.RowKit
set_option linter.unusedVariables false
set_option linter.unusedSimpArgs false

theorem even_yes {A : Option Addr} {n c x : Nat} {w : World} (h : Lim w A n c (limbs x)) (hx : x % 2 = 0) : Calls Tryd.prog 48 #[.slice A n c] w fun e w' => e = .returned (.bool true) ∧ w = w' := by
  have := even_any h
  rw [val_limbs, hx] at this
  exact this
theorem even_no {A : Option Addr} {n c x : Nat} {w : World} (h : Lim w A n c (limbs x)) (hx : x % 2 = 1) : Calls Tryd.prog 48 #[.slice A n c] w fun e w' => e = .returned (.bool false) ∧ w = w' := by
  have := even_any h
  rw [val_limbs, hx] at this
  exact this
theorem half_nat {A : Option Addr} {n c x : Nat} {w : World} (h : Lim w A n c (limbs x)) (hn : n ≤ 64) : Calls Tryd.prog 49 #[.slice A n c] w fun e w' => RetN (x / 2) w e w' := by
  have := half_of h (by omega)
  rw [val_limbs] at this
  exact this
/-- A number of at most 64 limbs, as a slice. -/
def Ns (x : Nat) (v : Value) (wr : World) : Prop := ∃ A n c, v = .slice A n c ∧ n ≤ 64 ∧ Lim wr A n c (limbs x)
theorem Ns.next {x : Nat} {v : Value} {w w' : World} (h : Ns x v w) (hb : Below w.heap.size w w') : Ns x v w' := by
  obtain ⟨A, n, c, e, hn, l⟩ := h
  exact ⟨A, n, c, e, hn, l.next hb⟩
theorem Ns.mk {x : Nat} {A : Option Addr} {n c : Nat} {w : World} (h : Lim w A n c (limbs x)) (hx : ln x ≤ 64) : Ns x (.slice A n c) w := ⟨A, n, c, rfl, by rw [← h.len, limbs_length]; exact hx, h⟩
theorem ns_zero {x n : Nat} {A : Option Addr} {c : Nat} {w : World} (h : Lim w A n c (limbs x)) : x = 0 ↔ n = 0 := by
  have := h.len
  rw [limbs_length] at this
  constructor
  · rintro rfl; rw [← this, ln_zero]
  · rintro rfl; exact ln_eq_zero this
theorem bl_lnk {a k : Nat} (h : ln a ≤ k) : bl a ≤ 32 * k := bl_le (by rw [two_32]; exact Nat.lt_of_lt_of_le (lt_ln a) (Nat.pow_le_pow_right B_pos h))
theorem gcd_step {X y g : Nat} (hg : Nat.gcd X y = g) : (X < y → Nat.gcd (y - X) X = g) ∧ (¬ X < y → Nat.gcd (X - y) y = g) := by
  constructor
  · intro h
    rw [gcd_less y X (by omega), Nat.gcd_comm, hg]
  · intro h
    rw [gcd_less X y (by omega), hg]
theorem bl_half {x : Nat} (h : x ≠ 0) : bl (x / 2) + 1 = bl x := (bl_pos h).symm
theorem ln_half {x : Nat} (h : ln x ≤ 64) : ln (x / 2) ≤ 64 := Nat.le_trans (ln_mono (Nat.div_le_self _ _)) h
theorem pow_half (t g : Nat) : 2 ^ (t + 1) * g = 2 ^ t * (2 * g) := by rw [Nat.pow_succ, Nat.mul_assoc]

set_option maxHeartbeats 8000000 in
set_option maxRecDepth 100000 in
theorem refGcd_any {A A' : Option Addr} {n c n' c' a b : Nat} {w : World} (ha : Lim w A n c (limbs a)) (hb : Lim w A' n' c' (limbs b)) (la : ln a ≤ 64) (lb : ln b ≤ 64) :
    Calls Tryd.prog 27 #[.slice A n c, .slice A' n' c'] w fun e w' => RetN (Nat.gcd a b) w e w' := by
  have za := ns_zero ha; have zb := ns_zero hb
  have hl := ha.len; have hl' := hb.len
  rw [limbs_length] at hl hl'
  by_cases n0 : n = 0
  · subst n0
    obtain rfl := za.2 rfl
    rw [Nat.gcd_zero_left]
    have HB := Lib.hid hb
    clear ha hb hl hl' za zb
    go_enter Tryd.func27, Tryd.ntmps27
    go_wp2_with fail
    go_ret
    exact ⟨_, _, _, rfl, HB.out, Below.refl _ _⟩
  · have e1 : ((n : Int) == 0) = false := by simpa using n0
    by_cases m0 : n' = 0
    · subst m0
      obtain rfl := zb.2 rfl
      rw [Nat.gcd_zero_right]
      have HA := Lib.hid ha
      clear ha hb hl hl' za zb
      go_enter Tryd.func27, Tryd.ntmps27
      go_wp2_with fail
      go_ret
      exact ⟨_, _, _, rfl, HA.out, Below.refl _ _⟩
    · have e2 : ((n' : Int) == 0) = false := by simpa using m0
      have a0 : a ≠ 0 := fun e => n0 (za.1 e)
      have b0 : b ≠ 0 := fun e => m0 (zb.1 e)
      have BA : bl a ≤ 2048 := bl_lnk la
      have N0 := Lib.hid (Ns.mk ha la); have M0 := Lib.hid (Ns.mk hb lb)
      have LG : Hid (∀ z t, 2 ^ t * z = Nat.gcd a b → ln z ≤ 64) := by
        intro z t h
        refine Nat.le_trans (ln_mono ?_) la
        refine Nat.le_trans ?_ (Nat.le_of_dvd (Nat.pos_of_ne_zero a0) (Nat.gcd_dvd_left a b))
        rw [← h]
        exact Nat.le_mul_of_pos_left _ (Nat.two_pow_pos t)
      have A0 := Lib.hid a0; have B0 := Lib.hid b0; have LA := Lib.hid la; have LB := Lib.hid lb; have BA := Lib.hid BA
      clear ha hb hl hl' za zb n0 m0 a0 b0 la lb
      go_enter Tryd.func27, Tryd.ntmps27
      go_wp2_with fail
      go_loopg [0, 1, 5] a (fun x s0 s1 s5 wr => ∃ y t : Nat, s5 = .int .i64 (t : Int) ∧ t ≤ 2048 ∧ Hid (x ≠ 0 ∧ y ≠ 0 ∧ t + bl x ≤ 2048 ∧ 2 ^ t * Nat.gcd x y = Nat.gcd a b ∧ ln x ≤ 64 ∧ ln y ≤ 64) ∧ Hid (Ns x s0 wr) ∧ Hid (Ns y s1 wr) ∧ Hid (Below w.heap.size w wr))
      case atStart => exact ⟨b, 0, rfl, by omega, ⟨A0.out, B0.out, by have := BA.out; omega, by simp, LA.out, LB.out⟩, N0, M0, Below.refl _ _⟩
      case round =>
        obtain ⟨y, t, rfl, ht, HX, NX, NY, BL⟩ := hrel
        obtain ⟨x0, y0, tb, eg, lx, ly⟩ := HX.out
        obtain ⟨A1, n1, c1, rfl, hn1, L1⟩ := NX.out
        obtain ⟨A2, n2, c2, rfl, hn2, L2⟩ := NY.out
        have xp : 0 < bl gk := by have := bl_pos x0; omega
        by_cases both : gk % 2 = 0 ∧ y % 2 = 0
        · have K1 := Lib.hid (even_yes L1 both.1); have K2 := Lib.hid (even_yes L2 both.2)
          have K3 := Lib.hid (half_nat L1 hn1)
          have HY : Hid (gk / 2 ≠ 0 ∧ y / 2 ≠ 0 ∧ t + 1 + bl (gk / 2) ≤ 2048 ∧ 2 ^ (t + 1) * Nat.gcd (gk / 2) (y / 2) = Nat.gcd a b ∧ ln (gk / 2) ≤ 64 ∧ ln (y / 2) ≤ 64) := by
            refine ⟨by omega, by omega, by have := bl_half x0; omega, ?_, ln_half lx, ln_half ly⟩
            rw [pow_half, ← gcd_both _ _ both.1 both.2, eg]
          have ht1 : t + 1 ≤ 2048 := by omega
          have L2 := Lib.hid L2
          have GX := Lib.hid (show gk / 2 < gk by omega)
          clear L1 both eg x0 y0 tb xp HX
          go_wp2_with fail
          refine K1.out.mono ?_
          rintro e w' ⟨rfl, rfl⟩
          go_wp2_with fail
          refine K2.out.mono ?_
          rintro e w' ⟨rfl, rfl⟩
          go_wp2_with fail
          refine K3.out.mono ?_
          rintro e w1 ⟨A3, n3, c3, rfl, L3, B3⟩
          have K4 := Lib.hid (half_nat (L2.out.next B3) hn2)
          have L3 := Lib.hid L3; have B03 := Lib.hid (below_step BL.out B3)
          clear B3
          go_wp2_with fail
          refine K4.out.mono ?_
          rintro e w2 ⟨A4, n4, c4, rfl, L4, B4⟩
          have N3 := Lib.hid ((Ns.mk L3.out HY.out.2.2.2.2.1).next B4)
          have N4 := Lib.hid (Ns.mk L4 HY.out.2.2.2.2.2)
          have B04 := Lib.hid (below_step B03.out B4)
          clear L4 B4
          go_wp2_with fail
          go_roundg (gk / 2)
          case measure => exact GX.out
          case rel =>
            go_light
            exact ⟨y / 2, t + 1, by go_num, ht1, HY, N3, N4, B04⟩
        · have JJ : Hid ((gk % 2 = 1 ∨ y % 2 = 1) ∧ y ≠ 0) := ⟨by omega, y0⟩
          have EG := Lib.hid eg
          have LX := Lib.hid lx; have LY := Lib.hid ly
          by_cases xe : gk % 2 = 0
          · have K1 := Lib.hid (even_yes L1 xe); have K2 := Lib.hid (even_no L2 (by omega))
            clear L1 L2 both eg x0 y0 tb xp HX xe lx ly
            go_wp2_with fail
            refine K1.out.mono ?_
            rintro e w' ⟨rfl, rfl⟩
            go_wp2_with fail
            refine K2.out.mono ?_
            rintro e w' ⟨rfl, rfl⟩
            go_wp2_with fail
            obtain ⟨g, hg⟩ : ∃ g, Nat.gcd gk y = g := ⟨_, rfl⟩
            have EG : Hid (2 ^ t * g = Nat.gcd a b) := by unfold Hid; rw [← hg]; exact EG.out
            have J0 : Hid (Nat.gcd gk y = g ∧ y ≠ 0 ∧ (gk % 2 = 1 ∨ y % 2 = 1) ∧ ln gk ≤ 64 ∧ ln y ≤ 64) := ⟨hg, JJ.out.2, JJ.out.1, LX.out, LY.out⟩
            clear hg JJ LX LY
            go_loopg [0, 1] (gk + y) (fun q s0 s1 wq => ∃ x y : Nat, Hid (x + y = q) ∧ Hid (Nat.gcd x y = g ∧ y ≠ 0 ∧ (x % 2 = 1 ∨ y % 2 = 1) ∧ ln x ≤ 64 ∧ ln y ≤ 64) ∧ Hid (Ns x s0 wq) ∧ Hid (Ns y s1 wq) ∧ Hid (Below w.heap.size w wq))
            case atStart => exact ⟨gk, y, rfl, J0, NX, NY, BL⟩
            case round =>
              clear J0 NX NY BL
              obtain ⟨x, y, HQ, J, NX, NY, BL⟩ := hrel
              obtain ⟨A1, n1, c1, rfl, hn1, L1⟩ := NX.out
              obtain ⟨A2, n2, c2, rfl, hn2, L2⟩ := NY.out
              have zx := ns_zero L1
              clear L1 L2
              by_cases x0 : x = 0
              · obtain rfl := zx.1 x0
                have EZ : Hid (2 ^ t * y = Nat.gcd a b) := by
                  have := J.out.1
                  rw [x0, Nat.gcd_zero_left] at this
                  unfold Hid
                  rw [this]; exact EG.out
                clear zx x0 J NX HQ
                go_wp2_with fail
                go_loopg [1, 5] t (fun q s1 s5 wq => ∃ z : Nat, s5 = .int .i64 (q : Int) ∧ q ≤ 2048 ∧ Hid (2 ^ q * z = Nat.gcd a b) ∧ Hid (Ns z s1 wq) ∧ Hid (Below w.heap.size w wq))
                case atStart => exact ⟨y, rfl, ht, EZ, NY, BL⟩
                case round =>
                  clear EZ NY BL
                  obtain ⟨z, rfl, hq, EZ, NZ, BL⟩ := hrel
                  obtain ⟨A3, n3, c3, rfl, hn3, L3⟩ := NZ.out
                  by_cases q0 : gk = 0
                  · subst q0
                    have E1 : Hid (z = Nat.gcd a b) := by have := EZ.out; rw [Nat.pow_zero, Nat.one_mul] at this; exact this
                    have L3 := Lib.hid L3
                    clear NZ EZ
                    go_wp2_with fail
                    go_ret
                    exact ⟨_, _, _, rfl, by rw [← E1.out]; exact L3.out, BL.out⟩
                  · obtain ⟨k, rfl⟩ : ∃ k, gk = k + 1 := ⟨gk - 1, by omega⟩
                    have K := Lib.hid (twice_any (b := 0) L3 (by decide) (by omega))
                    have E2 : Hid (2 ^ k * (2 * z + 0) = Nat.gcd a b) := by unfold Hid; rw [Nat.add_zero, ← pow_half]; exact EZ.out
                    have k1 : (0 : Int) < ((k + 1 : Nat) : Int) := by omega
                    clear L3 NZ EZ q0
                    go_wp2_with fail
                    refine K.out.mono ?_
                    rintro e w3 ⟨A4, n4, c4, rfl, L4, B4⟩
                    have N4 := Lib.hid (Ns.mk L4 (LG.out _ _ E2.out))
                    have B04 := Lib.hid (below_step BL.out B4)
                    clear L4 B4
                    go_wp2_with fail
                    go_roundg k
                    case measure => omega
                    case rel =>
                      go_light
                      exact ⟨2 * z + 0, by go_num, by omega, E2, N4, B04⟩
              · have np : 0 < n1 := by
                  rcases Nat.eq_zero_or_pos n1 with e | e
                  · exact absurd (zx.2 e) x0
                  · exact e
                have np' : (0 : Int) < (n1 : Int) := by omega
                have I0 : Hid (x ≠ 0 ∧ Nat.gcd x y = g ∧ (x % 2 = 1 ∨ y % 2 = 1) ∧ ln x ≤ 64) := ⟨x0, J.out.1, J.out.2.2.1, J.out.2.2.2.1⟩
                have YY : Hid (y ≠ 0 ∧ ln y ≤ 64) := ⟨J.out.2.1, J.out.2.2.2.2⟩
                clear zx J x0
                go_wp2_with fail
                go_loopg [0] x (fun q s0 wq => Hid (q ≤ x) ∧ Hid (q ≠ 0 ∧ Nat.gcd q y = g ∧ (q % 2 = 1 ∨ y % 2 = 1) ∧ ln q ≤ 64) ∧ Hid (Ns q s0 wq) ∧ Hid (Ns y (.slice A2 n2 c2) wq) ∧ Hid (Below w.heap.size w wq))
                case atStart => exact ⟨Nat.le_refl x, I0, NX, NY, BL⟩
                case round =>
                  clear I0 NX NY BL np np'
                  obtain ⟨QX, I, NX, NY, BL⟩ := hrel
                  obtain ⟨X, rfl⟩ : ∃ X, X = gk := ⟨gk, rfl⟩
                  obtain ⟨A3, n3, c3, rfl, hn3, L3⟩ := NX.out
                  have zx := ns_zero L3
                  have np : 0 < n3 := by
                    rcases Nat.eq_zero_or_pos n3 with e | e
                    · exact absurd (zx.2 e) I.out.1
                    · exact e
                  have np' : (0 : Int) < (n3 : Int) := by omega
                  by_cases xe : X % 2 = 0
                  · have K1 := Lib.hid (even_yes L3 xe)
                    have K2 := Lib.hid (half_nat L3 hn3)
                    have I2 : Hid (X / 2 ≠ 0 ∧ Nat.gcd (X / 2) y = g ∧ (X / 2 % 2 = 1 ∨ y % 2 = 1) ∧ ln (X / 2) ≤ 64) := by
                      obtain ⟨i1, i2, i3, i4⟩ := I.out
                      have yo : y % 2 = 1 := by omega
                      exact ⟨by omega, by rw [gcd_left X y xe yo, i2], Or.inr yo, ln_half i4⟩
                    have Q2 : Hid (X / 2 ≤ x) := by have := QX.out; unfold Hid; omega
                    have GX : Hid (X / 2 < X) := by have := I.out.1; unfold Hid; omega
                    clear L3 I QX zx xe
                    go_wp2_with fail
                    refine K1.out.mono ?_
                    rintro e w' ⟨rfl, rfl⟩
                    go_wp2_with fail
                    refine K2.out.mono ?_
                    rintro e w3 ⟨A4, n4, c4, rfl, L4, B4⟩
                    have N4 := Lib.hid (Ns.mk L4 I2.out.2.2.2)
                    have NY2 := Lib.hid (NY.out.next B4)
                    have B04 := Lib.hid (below_step BL.out B4)
                    clear L4 B4
                    go_wp2_with fail
                    go_roundg (X / 2)
                    case measure => exact GX.out
                    case rel =>
                      go_light
                      exact ⟨Q2, I2, N4, NY2, B04⟩
                  · have K1 := Lib.hid (even_no L3 (by omega))
                    have XO : Hid (X % 2 = 1) := by unfold Hid; omega
                    have I0 : Hid (y ≠ 0 ∧ Nat.gcd X y = g ∧ ln y ≤ 64) := ⟨YY.out.1, I.out.2.1, YY.out.2⟩
                    have XX : Hid (X ≠ 0 ∧ ln X ≤ 64) := ⟨I.out.1, I.out.2.2.2⟩
                    clear L3 I zx xe np np'
                    go_wp2_with fail
                    refine K1.out.mono ?_
                    rintro e w' ⟨rfl, rfl⟩
                    go_wp2_with fail
                    go_loopg [1] y (fun q s1 wq => Hid (q ≤ y) ∧ Hid (q ≠ 0 ∧ Nat.gcd X q = g ∧ ln q ≤ 64) ∧ Hid (Ns X (.slice A3 n3 c3) wq) ∧ Hid (Ns q s1 wq) ∧ Hid (Below w.heap.size w wq))
                    case atStart => exact ⟨Nat.le_refl y, I0, NX, NY, BL⟩
                    case round =>
                      clear I0 NX NY BL K1
                      obtain ⟨QY, I, NX, NY, BL⟩ := hrel
                      obtain ⟨Y, rfl⟩ : ∃ Y, Y = gk := ⟨gk, rfl⟩
                      obtain ⟨A4, n4, c4, rfl, hn4, L4⟩ := NY.out
                      by_cases ye : Y % 2 = 0
                      · have K1 := Lib.hid (even_yes L4 ye)
                        have K2 := Lib.hid (half_nat L4 hn4)
                        have I2 : Hid (Y / 2 ≠ 0 ∧ Nat.gcd X (Y / 2) = g ∧ ln (Y / 2) ≤ 64) := by
                          obtain ⟨i1, i2, i4⟩ := I.out
                          exact ⟨by omega, by rw [gcd_right X Y XO.out ye, i2], ln_half i4⟩
                        have Q2 : Hid (Y / 2 ≤ y) := by have := QY.out; unfold Hid; omega
                        have GX : Hid (Y / 2 < Y) := by have := I.out.1; unfold Hid; omega
                        clear L4 I QY ye
                        go_wp2_with fail
                        refine K1.out.mono ?_
                        rintro e w' ⟨rfl, rfl⟩
                        go_wp2_with fail
                        refine K2.out.mono ?_
                        rintro e w3 ⟨A5, n5, c5, rfl, L5, B5⟩
                        have N5 := Lib.hid (Ns.mk L5 I2.out.2.2)
                        have NX2 := Lib.hid (NX.out.next B5)
                        have B05 := Lib.hid (below_step BL.out B5)
                        clear L5 B5
                        go_wp2_with fail
                        go_roundg (Y / 2)
                        case measure => exact GX.out
                        case rel =>
                          go_light
                          exact ⟨Q2, I2, NX2, N5, B05⟩
                      · have K1 := Lib.hid (even_no L4 (by omega))
                        have YO : Hid (Y % 2 = 1) := by unfold Hid; omega
                        obtain ⟨A3', n3', c3', e3, hn3', L3⟩ := NX.out
                        injection e3 with e3a e3b e3c
                        subst e3a e3b e3c
                        have GS := Lib.hid (gcd_step I.out.2.1)
                        have K2 := refCmp_any L3 L4 (by have := XX.out.2; omega) (by have := I.out.2.2; omega)
                        have LYY := Lib.hid I.out.2.2
                        have MQ : Hid (X + Y ≤ x + y ∧ 0 < X ∧ 0 < Y) := ⟨by have := QX.out; have := QY.out; omega, Nat.pos_of_ne_zero XX.out.1, Nat.pos_of_ne_zero I.out.1⟩
                        by_cases xy : X < Y
                        · rw [sgn_lt xy] at K2
                          have K2 := Lib.hid K2
                          have J2 : Hid (Nat.gcd (Y - X) X = g ∧ X ≠ 0 ∧ ((Y - X) % 2 = 1 ∨ X % 2 = 1) ∧ ln (Y - X) ≤ 64 ∧ ln X ≤ 64) := ⟨GS.out.1 xy, XX.out.1, Or.inr XO.out, Nat.le_trans (ln_mono (Nat.sub_le _ _)) LYY.out, XX.out.2⟩
                          have K3 : Hid (∀ W, Below wr.heap.size wr W → Calls Tryd.prog 51 #[.slice A4 n4 c4, .slice A3 n3 c3] W fun e w' => RetN (Y - X) W e w') := by
                            intro W hW
                            have K3 := refSub_any (L4.next hW) (L3.next hW) (by omega) (by rw [← L3.len, ← L4.len, limbs_length, limbs_length]; exact ln_mono (by omega)) (by rw [val_limbs, val_limbs]; omega)
                            rw [val_limbs, val_limbs] at K3
                            exact K3
                          have MM : Hid (Y - X + X < x + y) := by have := MQ.out; unfold Hid; omega
                          clear L3 L4 ye xy GS
                          go_wp2_with fail
                          refine K1.out.mono ?_
                          rintro e w' ⟨rfl, rfl⟩
                          go_wp2_with fail
                          refine K2.out.mono ?_
                          rintro e w3 ⟨rfl, m3, hw3⟩
                          have B3 : Below wr.heap.size wr w3 := by rw [hw3]; exact below_drewN (Below.refl _ _) m3
                          have K4 := Lib.hid (K3.out w3 B3)
                          have NX3 := Lib.hid (NX.out.next B3)
                          have B03 := Lib.hid (below_step BL.out B3)
                          clear hw3 B3
                          go_wp2_with fail
                          refine K4.out.mono ?_
                          rintro e w4 ⟨A6, n6, c6, rfl, L6, B6⟩
                          have N6 := Lib.hid (Ns.mk L6 J2.out.2.2.2.1)
                          have NX6 := Lib.hid (NX3.out.next B6)
                          have B06 := Lib.hid (below_step B03.out B6)
                          clear L6 B6
                          go_wp2_with fail
                          go_roundg (Y - X + X)
                          case measure => rw [← HQ.out]; exact MM.out
                          case rel =>
                            go_light
                            exact ⟨Y - X, X, rfl, J2, N6, NX6, B06⟩
                        · have hs0 := sgn_nonneg (show Y ≤ X by omega)
                          have J2 : Hid (Nat.gcd (X - Y) Y = g ∧ Y ≠ 0 ∧ ((X - Y) % 2 = 1 ∨ Y % 2 = 1) ∧ ln (X - Y) ≤ 64 ∧ ln Y ≤ 64) := ⟨GS.out.2 xy, I.out.1, Or.inr YO.out, Nat.le_trans (ln_mono (Nat.sub_le _ _)) XX.out.2, LYY.out⟩
                          have K3 : Hid (∀ W, Below wr.heap.size wr W → Calls Tryd.prog 51 #[.slice A3 n3 c3, .slice A4 n4 c4] W fun e w' => RetN (X - Y) W e w') := by
                            intro W hW
                            have K3 := refSub_any (L3.next hW) (L4.next hW) (by omega) (by rw [← L3.len, ← L4.len, limbs_length, limbs_length]; exact ln_mono (by omega)) (by rw [val_limbs, val_limbs]; omega)
                            rw [val_limbs, val_limbs] at K3
                            exact K3
                          have MM : Hid (X - Y + Y < x + y) := by have := MQ.out; unfold Hid; omega
                          generalize sgn X Y = sg at *
                          have K2 := Lib.hid K2
                          have hs1 : ¬ sg < 0 := by omega
                          clear L3 L4 ye xy GS
                          go_wp2_with fail
                          refine K1.out.mono ?_
                          rintro e w' ⟨rfl, rfl⟩
                          go_wp2_with fail
                          refine K2.out.mono ?_
                          rintro e w3 ⟨rfl, m3, hw3⟩
                          have B3 : Below wr.heap.size wr w3 := by rw [hw3]; exact below_drewN (Below.refl _ _) m3
                          have K4 := Lib.hid (K3.out w3 B3)
                          have NY3 := Lib.hid (NY.out.next B3)
                          have B03 := Lib.hid (below_step BL.out B3)
                          clear hw3 B3
                          go_wp2_with fail
                          refine K4.out.mono ?_
                          rintro e w4 ⟨A6, n6, c6, rfl, L6, B6⟩
                          have N6 := Lib.hid (Ns.mk L6 J2.out.2.2.2.1)
                          have NY6 := Lib.hid (NY3.out.next B6)
                          have B06 := Lib.hid (below_step B03.out B6)
                          clear L6 B6
                          go_wp2_with fail
                          go_roundg (X - Y + Y)
                          case measure => rw [← HQ.out]; exact MM.out
                          case rel =>
                            go_light
                            exact ⟨X - Y, Y, rfl, J2, N6, NY6, B06⟩
          · have K1 := Lib.hid (even_no L1 (by omega))
            clear L1 L2 both eg x0 y0 tb xp HX xe lx ly
            go_wp2_with fail
            refine K1.out.mono ?_
            rintro e w' ⟨rfl, rfl⟩
            go_wp2_with fail
            obtain ⟨g, hg⟩ : ∃ g, Nat.gcd gk y = g := ⟨_, rfl⟩
            have EG : Hid (2 ^ t * g = Nat.gcd a b) := by unfold Hid; rw [← hg]; exact EG.out
            have J0 : Hid (Nat.gcd gk y = g ∧ y ≠ 0 ∧ (gk % 2 = 1 ∨ y % 2 = 1) ∧ ln gk ≤ 64 ∧ ln y ≤ 64) := ⟨hg, JJ.out.2, JJ.out.1, LX.out, LY.out⟩
            clear hg JJ LX LY
            go_loopg [0, 1] (gk + y) (fun q s0 s1 wq => ∃ x y : Nat, Hid (x + y = q) ∧ Hid (Nat.gcd x y = g ∧ y ≠ 0 ∧ (x % 2 = 1 ∨ y % 2 = 1) ∧ ln x ≤ 64 ∧ ln y ≤ 64) ∧ Hid (Ns x s0 wq) ∧ Hid (Ns y s1 wq) ∧ Hid (Below w.heap.size w wq))
            case atStart => exact ⟨gk, y, rfl, J0, NX, NY, BL⟩
            case round =>
              clear J0 NX NY BL
              obtain ⟨x, y, HQ, J, NX, NY, BL⟩ := hrel
              obtain ⟨A1, n1, c1, rfl, hn1, L1⟩ := NX.out
              obtain ⟨A2, n2, c2, rfl, hn2, L2⟩ := NY.out
              have zx := ns_zero L1
              clear L1 L2
              by_cases x0 : x = 0
              · obtain rfl := zx.1 x0
                have EZ : Hid (2 ^ t * y = Nat.gcd a b) := by
                  have := J.out.1
                  rw [x0, Nat.gcd_zero_left] at this
                  unfold Hid
                  rw [this]; exact EG.out
                clear zx x0 J NX HQ
                go_wp2_with fail
                go_loopg [1, 5] t (fun q s1 s5 wq => ∃ z : Nat, s5 = .int .i64 (q : Int) ∧ q ≤ 2048 ∧ Hid (2 ^ q * z = Nat.gcd a b) ∧ Hid (Ns z s1 wq) ∧ Hid (Below w.heap.size w wq))
                case atStart => exact ⟨y, rfl, ht, EZ, NY, BL⟩
                case round =>
                  clear EZ NY BL
                  obtain ⟨z, rfl, hq, EZ, NZ, BL⟩ := hrel
                  obtain ⟨A3, n3, c3, rfl, hn3, L3⟩ := NZ.out
                  by_cases q0 : gk = 0
                  · subst q0
                    have E1 : Hid (z = Nat.gcd a b) := by have := EZ.out; rw [Nat.pow_zero, Nat.one_mul] at this; exact this
                    have L3 := Lib.hid L3
                    clear NZ EZ
                    go_wp2_with fail
                    go_ret
                    exact ⟨_, _, _, rfl, by rw [← E1.out]; exact L3.out, BL.out⟩
                  · obtain ⟨k, rfl⟩ : ∃ k, gk = k + 1 := ⟨gk - 1, by omega⟩
                    have K := Lib.hid (twice_any (b := 0) L3 (by decide) (by omega))
                    have E2 : Hid (2 ^ k * (2 * z + 0) = Nat.gcd a b) := by unfold Hid; rw [Nat.add_zero, ← pow_half]; exact EZ.out
                    have k1 : (0 : Int) < ((k + 1 : Nat) : Int) := by omega
                    clear L3 NZ EZ q0
                    go_wp2_with fail
                    refine K.out.mono ?_
                    rintro e w3 ⟨A4, n4, c4, rfl, L4, B4⟩
                    have N4 := Lib.hid (Ns.mk L4 (LG.out _ _ E2.out))
                    have B04 := Lib.hid (below_step BL.out B4)
                    clear L4 B4
                    go_wp2_with fail
                    go_roundg k
                    case measure => omega
                    case rel =>
                      go_light
                      exact ⟨2 * z + 0, by go_num, by omega, E2, N4, B04⟩
              · have np : 0 < n1 := by
                  rcases Nat.eq_zero_or_pos n1 with e | e
                  · exact absurd (zx.2 e) x0
                  · exact e
                have np' : (0 : Int) < (n1 : Int) := by omega
                have I0 : Hid (x ≠ 0 ∧ Nat.gcd x y = g ∧ (x % 2 = 1 ∨ y % 2 = 1) ∧ ln x ≤ 64) := ⟨x0, J.out.1, J.out.2.2.1, J.out.2.2.2.1⟩
                have YY : Hid (y ≠ 0 ∧ ln y ≤ 64) := ⟨J.out.2.1, J.out.2.2.2.2⟩
                clear zx J x0
                go_wp2_with fail
                go_loopg [0] x (fun q s0 wq => Hid (q ≤ x) ∧ Hid (q ≠ 0 ∧ Nat.gcd q y = g ∧ (q % 2 = 1 ∨ y % 2 = 1) ∧ ln q ≤ 64) ∧ Hid (Ns q s0 wq) ∧ Hid (Ns y (.slice A2 n2 c2) wq) ∧ Hid (Below w.heap.size w wq))
                case atStart => exact ⟨Nat.le_refl x, I0, NX, NY, BL⟩
                case round =>
                  clear I0 NX NY BL np np'
                  obtain ⟨QX, I, NX, NY, BL⟩ := hrel
                  obtain ⟨X, rfl⟩ : ∃ X, X = gk := ⟨gk, rfl⟩
                  obtain ⟨A3, n3, c3, rfl, hn3, L3⟩ := NX.out
                  have zx := ns_zero L3
                  have np : 0 < n3 := by
                    rcases Nat.eq_zero_or_pos n3 with e | e
                    · exact absurd (zx.2 e) I.out.1
                    · exact e
                  have np' : (0 : Int) < (n3 : Int) := by omega
                  by_cases xe : X % 2 = 0
                  · have K1 := Lib.hid (even_yes L3 xe)
                    have K2 := Lib.hid (half_nat L3 hn3)
                    have I2 : Hid (X / 2 ≠ 0 ∧ Nat.gcd (X / 2) y = g ∧ (X / 2 % 2 = 1 ∨ y % 2 = 1) ∧ ln (X / 2) ≤ 64) := by
                      obtain ⟨i1, i2, i3, i4⟩ := I.out
                      have yo : y % 2 = 1 := by omega
                      exact ⟨by omega, by rw [gcd_left X y xe yo, i2], Or.inr yo, ln_half i4⟩
                    have Q2 : Hid (X / 2 ≤ x) := by have := QX.out; unfold Hid; omega
                    have GX : Hid (X / 2 < X) := by have := I.out.1; unfold Hid; omega
                    clear L3 I QX zx xe
                    go_wp2_with fail
                    refine K1.out.mono ?_
                    rintro e w' ⟨rfl, rfl⟩
                    go_wp2_with fail
                    refine K2.out.mono ?_
                    rintro e w3 ⟨A4, n4, c4, rfl, L4, B4⟩
                    have N4 := Lib.hid (Ns.mk L4 I2.out.2.2.2)
                    have NY2 := Lib.hid (NY.out.next B4)
                    have B04 := Lib.hid (below_step BL.out B4)
                    clear L4 B4
                    go_wp2_with fail
                    go_roundg (X / 2)
                    case measure => exact GX.out
                    case rel =>
                      go_light
                      exact ⟨Q2, I2, N4, NY2, B04⟩
                  · have K1 := Lib.hid (even_no L3 (by omega))
                    have XO : Hid (X % 2 = 1) := by unfold Hid; omega
                    have I0 : Hid (y ≠ 0 ∧ Nat.gcd X y = g ∧ ln y ≤ 64) := ⟨YY.out.1, I.out.2.1, YY.out.2⟩
                    have XX : Hid (X ≠ 0 ∧ ln X ≤ 64) := ⟨I.out.1, I.out.2.2.2⟩
                    clear L3 I zx xe np np'
                    go_wp2_with fail
                    refine K1.out.mono ?_
                    rintro e w' ⟨rfl, rfl⟩
                    go_wp2_with fail
                    go_loopg [1] y (fun q s1 wq => Hid (q ≤ y) ∧ Hid (q ≠ 0 ∧ Nat.gcd X q = g ∧ ln q ≤ 64) ∧ Hid (Ns X (.slice A3 n3 c3) wq) ∧ Hid (Ns q s1 wq) ∧ Hid (Below w.heap.size w wq))
                    case atStart => exact ⟨Nat.le_refl y, I0, NX, NY, BL⟩
                    case round =>
                      clear I0 NX NY BL K1
                      obtain ⟨QY, I, NX, NY, BL⟩ := hrel
                      obtain ⟨Y, rfl⟩ : ∃ Y, Y = gk := ⟨gk, rfl⟩
                      obtain ⟨A4, n4, c4, rfl, hn4, L4⟩ := NY.out
                      by_cases ye : Y % 2 = 0
                      · have K1 := Lib.hid (even_yes L4 ye)
                        have K2 := Lib.hid (half_nat L4 hn4)
                        have I2 : Hid (Y / 2 ≠ 0 ∧ Nat.gcd X (Y / 2) = g ∧ ln (Y / 2) ≤ 64) := by
                          obtain ⟨i1, i2, i4⟩ := I.out
                          exact ⟨by omega, by rw [gcd_right X Y XO.out ye, i2], ln_half i4⟩
                        have Q2 : Hid (Y / 2 ≤ y) := by have := QY.out; unfold Hid; omega
                        have GX : Hid (Y / 2 < Y) := by have := I.out.1; unfold Hid; omega
                        clear L4 I QY ye
                        go_wp2_with fail
                        refine K1.out.mono ?_
                        rintro e w' ⟨rfl, rfl⟩
                        go_wp2_with fail
                        refine K2.out.mono ?_
                        rintro e w3 ⟨A5, n5, c5, rfl, L5, B5⟩
                        have N5 := Lib.hid (Ns.mk L5 I2.out.2.2)
                        have NX2 := Lib.hid (NX.out.next B5)
                        have B05 := Lib.hid (below_step BL.out B5)
                        clear L5 B5
                        go_wp2_with fail
                        go_roundg (Y / 2)
                        case measure => exact GX.out
                        case rel =>
                          go_light
                          exact ⟨Q2, I2, NX2, N5, B05⟩
                      · have K1 := Lib.hid (even_no L4 (by omega))
                        have YO : Hid (Y % 2 = 1) := by unfold Hid; omega
                        obtain ⟨A3', n3', c3', e3, hn3', L3⟩ := NX.out
                        injection e3 with e3a e3b e3c
                        subst e3a e3b e3c
                        have GS := Lib.hid (gcd_step I.out.2.1)
                        have K2 := refCmp_any L3 L4 (by have := XX.out.2; omega) (by have := I.out.2.2; omega)
                        have LYY := Lib.hid I.out.2.2
                        have MQ : Hid (X + Y ≤ x + y ∧ 0 < X ∧ 0 < Y) := ⟨by have := QX.out; have := QY.out; omega, Nat.pos_of_ne_zero XX.out.1, Nat.pos_of_ne_zero I.out.1⟩
                        by_cases xy : X < Y
                        · rw [sgn_lt xy] at K2
                          have K2 := Lib.hid K2
                          have J2 : Hid (Nat.gcd (Y - X) X = g ∧ X ≠ 0 ∧ ((Y - X) % 2 = 1 ∨ X % 2 = 1) ∧ ln (Y - X) ≤ 64 ∧ ln X ≤ 64) := ⟨GS.out.1 xy, XX.out.1, Or.inr XO.out, Nat.le_trans (ln_mono (Nat.sub_le _ _)) LYY.out, XX.out.2⟩
                          have K3 : Hid (∀ W, Below wr.heap.size wr W → Calls Tryd.prog 51 #[.slice A4 n4 c4, .slice A3 n3 c3] W fun e w' => RetN (Y - X) W e w') := by
                            intro W hW
                            have K3 := refSub_any (L4.next hW) (L3.next hW) (by omega) (by rw [← L3.len, ← L4.len, limbs_length, limbs_length]; exact ln_mono (by omega)) (by rw [val_limbs, val_limbs]; omega)
                            rw [val_limbs, val_limbs] at K3
                            exact K3
                          have MM : Hid (Y - X + X < x + y) := by have := MQ.out; unfold Hid; omega
                          clear L3 L4 ye xy GS
                          go_wp2_with fail
                          refine K1.out.mono ?_
                          rintro e w' ⟨rfl, rfl⟩
                          go_wp2_with fail
                          refine K2.out.mono ?_
                          rintro e w3 ⟨rfl, m3, hw3⟩
                          have B3 : Below wr.heap.size wr w3 := by rw [hw3]; exact below_drewN (Below.refl _ _) m3
                          have K4 := Lib.hid (K3.out w3 B3)
                          have NX3 := Lib.hid (NX.out.next B3)
                          have B03 := Lib.hid (below_step BL.out B3)
                          clear hw3 B3
                          go_wp2_with fail
                          refine K4.out.mono ?_
                          rintro e w4 ⟨A6, n6, c6, rfl, L6, B6⟩
                          have N6 := Lib.hid (Ns.mk L6 J2.out.2.2.2.1)
                          have NX6 := Lib.hid (NX3.out.next B6)
                          have B06 := Lib.hid (below_step B03.out B6)
                          clear L6 B6
                          go_wp2_with fail
                          go_roundg (Y - X + X)
                          case measure => rw [← HQ.out]; exact MM.out
                          case rel =>
                            go_light
                            exact ⟨Y - X, X, rfl, J2, N6, NX6, B06⟩
                        · have hs0 := sgn_nonneg (show Y ≤ X by omega)
                          have J2 : Hid (Nat.gcd (X - Y) Y = g ∧ Y ≠ 0 ∧ ((X - Y) % 2 = 1 ∨ Y % 2 = 1) ∧ ln (X - Y) ≤ 64 ∧ ln Y ≤ 64) := ⟨GS.out.2 xy, I.out.1, Or.inr YO.out, Nat.le_trans (ln_mono (Nat.sub_le _ _)) XX.out.2, LYY.out⟩
                          have K3 : Hid (∀ W, Below wr.heap.size wr W → Calls Tryd.prog 51 #[.slice A3 n3 c3, .slice A4 n4 c4] W fun e w' => RetN (X - Y) W e w') := by
                            intro W hW
                            have K3 := refSub_any (L3.next hW) (L4.next hW) (by omega) (by rw [← L3.len, ← L4.len, limbs_length, limbs_length]; exact ln_mono (by omega)) (by rw [val_limbs, val_limbs]; omega)
                            rw [val_limbs, val_limbs] at K3
                            exact K3
                          have MM : Hid (X - Y + Y < x + y) := by have := MQ.out; unfold Hid; omega
                          generalize sgn X Y = sg at *
                          have K2 := Lib.hid K2
                          have hs1 : ¬ sg < 0 := by omega
                          clear L3 L4 ye xy GS
                          go_wp2_with fail
                          refine K1.out.mono ?_
                          rintro e w' ⟨rfl, rfl⟩
                          go_wp2_with fail
                          refine K2.out.mono ?_
                          rintro e w3 ⟨rfl, m3, hw3⟩
                          have B3 : Below wr.heap.size wr w3 := by rw [hw3]; exact below_drewN (Below.refl _ _) m3
                          have K4 := Lib.hid (K3.out w3 B3)
                          have NY3 := Lib.hid (NY.out.next B3)
                          have B03 := Lib.hid (below_step BL.out B3)
                          clear hw3 B3
                          go_wp2_with fail
                          refine K4.out.mono ?_
                          rintro e w4 ⟨A6, n6, c6, rfl, L6, B6⟩
                          have N6 := Lib.hid (Ns.mk L6 J2.out.2.2.2.1)
                          have NY6 := Lib.hid (NY3.out.next B6)
                          have B06 := Lib.hid (below_step B03.out B6)
                          clear L6 B6
                          go_wp2_with fail
                          go_roundg (X - Y + Y)
                          case measure => rw [← HQ.out]; exact MM.out
                          case rel =>
                            go_light
                            exact ⟨X - Y, Y, rfl, J2, N6, NY6, B06⟩
end Go.Proofs.YthollkngfibgaaaDoor
namespace Go.Proofs.YthollkngfibgaaaDoor
open Go.RowKit
set_option linter.unusedVariables false
set_option linter.unusedSimpArgs false

/-- A block of noughts, of 64 bits each. -/
@[irreducible] def zrow64 (n : Nat) : Obj := .cells ((List.replicate n 0).map hv).toArray 22
theorem Hrow.zeros (w : World) (n : Nat) : Hrow (w.alloc (zrow64 n)) w.heap.size (List.replicate n 0) [] := by
  unfold zrow64
  refine ⟨?_⟩
  rw [List.append_nil]
  exact heap_alloc_new w _
theorem make_u64 (n : Nat) (hn : n ≤ 1000000000000) (w : World) : (Instr.makeSlice 57 (.int .i64 (n : Int)) (.int .i64 (n : Int))).run Tryd.prog w =
    .ok (.slice (some ⟨w.heap.size, 0, none⟩) n n) (w.alloc (zrow64 n)) := by
  unfold zrow64
  obtain ⟨i, hi, hz, hs, hb⟩ := info_parts info_u64
  have hbytes : (i.bytes : Int) * (n : Int) ≤ 281474976710656 := by rw [hb]; omega
  have hr := run_make (P := Tryd.prog) w 57 22 i (.int .u64 0) Tryd.underlying57 hi hz .i64 .i64 n n (by omega) (by omega) hbytes (by omega)
  simp only [Int.toNat_natCast] at hr
  have e : madeCells (Value.int IntKind.u64 0).cells n = ((List.replicate n 0).map hv).toArray := by
    apply Array.ext'
    rw [show (Value.int IntKind.u64 0).cells = #[.int .u64 0] from rfl, toList_madeCells_one]
    simp
  rw [hr, hs, Nat.mul_one, e]

/-- What is in the loops of Mul. -/
structure Hpr (w : World) (g N : Nat) (X Y : List Nat) (x i j k : Nat) (wr : World) : Prop where
  ps : ∃ ps, ps.length = N ∧ Ld ps ∧ hval ps + H16 ^ (i + j) * k = hval (X.take i) * hval Y + H16 ^ i * x * hval (Y.take j) ∧ (∀ t, i + Y.length ≤ t → t < N → ps[t]? = some 0) ∧ Hrow wr g ps []
  kb : k < 65536
  t : Turn w wr g
section
variable {w : World} {g N : Nat} {X Y : List Nat} {x i j k : Nat} {wr : World}
theorem Hpr.drew (h : Hpr w g N X Y x i j k wr) : Hpr w g N X Y x i j k wr.drew := by
  obtain ⟨ps, a, b, c, d, r⟩ := h.ps
  exact ⟨⟨ps, a, b, c, d, r.drew⟩, h.kb, h.t.drew⟩
theorem Hpr.step (h : Hpr w g N X Y x i j k wr) (hx : x < 65536) (LY : Ld Y) (hj : j < Y.length) (hN : i + Y.length < N) :
    ∃ p : Nat, p < 65536 ∧ wr.cell? ⟨g, i + j, none⟩ = some (.int .u64 (p : Int)) ∧ wr.frozen? ⟨g, i + j, none⟩ = false ∧
      Hpr w g N X Y x i (j + 1) ((p + x * Y[j] + k) / 65536) (wr.setCell ⟨g, i + j, none⟩ (hv ((p + x * Y[j] + k) % 65536))) := by
  obtain ⟨ps, hl, ld, hv_, hz, r⟩ := h.ps
  have hk := h.kb
  have hy := LY.at_ j hj
  have hij : i + j < ps.length := by omega
  have hp := ld.at_ _ hij
  have hxy : x * Y[j] ≤ 65535 * 65535 := Nat.mul_le_mul (by omega) (by omega)
  refine ⟨ps[i + j], hp, r.cell _ hij, r.melt _, ⟨ps.set (i + j) ((ps[i + j] + x * Y[j] + k) % 65536), by simp [hl], ld_set ld _ _ (Nat.mod_lt _ (by decide)), ?_, ?_, r.set_ _ hij _⟩, ?_, h.t.setCell _ _⟩
  · have e := hval_set ps (i + j) ((ps[i + j] + x * Y[j] + k) % 65536) hij
    have := hpr_step hv_ e rfl
    rw [← Nat.add_assoc, Nat.pow_succ, hval_take_succ Y j hj]
    rw [show H16 ^ (i + j) * H16 = H16 ^ (i + j) * 65536 by rw [H16_eq]]
    rw [this, Nat.mul_add, Nat.pow_add, Nat.add_assoc]
    congr 1
    congr 1
    rw [Nat.mul_assoc, Nat.mul_assoc, Nat.mul_left_comm x]
  · intro t h1 h2
    rw [List.getElem?_set_ne (by omega)]
    exact hz t h1 h2
  · generalize x * Y[j] = q at *
    omega
theorem Hpr.turn (h : Hpr w g N X Y x i Y.length k wr) (hi : i < X.length) (hx : X[i] = x) (hN : i + Y.length < N) (x' : Nat) :
    wr.cell? ⟨g, i + Y.length, none⟩ = some (.int .u64 0) ∧ wr.frozen? ⟨g, i + Y.length, none⟩ = false ∧ Hpr w g N X Y x' (i + 1) 0 0 (wr.setCell ⟨g, i + Y.length, none⟩ (hv k)) := by
  obtain ⟨ps, hl, ld, hv_, hz, r⟩ := h.ps
  have hk := h.kb
  have h0 := hz (i + Y.length) (Nat.le_refl _) hN
  have hij : i + Y.length < ps.length := by omega
  have hp : ps[i + Y.length] = 0 := (List.getElem?_eq_some_iff.1 h0).2
  refine ⟨r.cell' h0, r.melt _, ⟨ps.set (i + Y.length) k, by simp [hl], ld_set ld _ _ hk, ?_, ?_, r.set_ _ hij _⟩, by omega, h.t.setCell _ _⟩
  · have e := hval_set ps (i + Y.length) k hij
    rw [hp, Nat.mul_zero, Nat.add_zero] at e
    rw [e, hv_, List.take_of_length_le (Nat.le_refl _), hval_take_succ X i hi, hx, Nat.add_mul, Nat.mul_zero, Nat.add_zero, List.take_zero, hval_nil, Nat.mul_zero, Nat.add_zero]
  · intro t h1 h2
    rw [List.getElem?_set_ne (by omega)]
    exact hz t (by omega) h2
end
theorem hcast_div (x y p k : Nat) : ((p : Int) + (x : Int) * (y : Int) + (k : Int)) / 65536 = (((p + x * y + k) / 65536 : Nat) : Int) := by
  rw [← Int.natCast_mul]; generalize x * y = q; omega
theorem hcast_mod (x y p k : Nat) : ((p : Int) + (x : Int) * (y : Int) + (k : Int)) % 65536 = (((p + x * y + k) % 65536 : Nat) : Int) := by
  rw [← Int.natCast_mul]; generalize x * y = q; omega

end Go.Proofs.YthollkngfibgaaaDoor
namespace Go.Proofs.YthollkngfibgaaaDoor
open Go.RowKit
set_option linter.unusedVariables false
set_option linter.unusedSimpArgs false

theorem four_halves (n : Nat) : hval [n % 65536, n / 65536 % 65536, n / 4294967296 % 65536, n / 281474976710656] = n := by
  simp only [hval_cons, hval_nil]
  rw [H16_eq]
  omega
set_option maxRecDepth 100000 in
theorem refOf_any (n : Nat) (hn : n < 18446744073709551616) (w : World) : Calls Tryd.prog 12 #[.int .u64 (n : Int)] w fun e w' => RetN n w e w' := by
  have LD : Ld [n % 65536, n / 65536 % 65536, n / 4294967296 % 65536, n / 281474976710656] := .cons (by omega) (.cons (by omega) (.cons (by omega) (.cons (by omega) .nil)))
  have HR : Hrow (w.alloc (.cells ([n % 65536, n / 65536 % 65536, n / 4294967296 % 65536, n / 281474976710656].map hv).toArray 22)) w.heap.size [n % 65536, n / 65536 % 65536, n / 4294967296 % 65536, n / 281474976710656] [] := ⟨by rw [List.append_nil]; exact heap_alloc_new w _⟩
  have K := whole_at (c := 4) (n := 2) (T := 4) rfl (HR.hl rfl) LD (by omega)
  rw [four_halves] at K
  have K := Lib.hid K
  have BL := Lib.hid ((Below.refl w.heap.size w).alloc (Nat.le_refl _) (.cells ([n % 65536, n / 65536 % 65536, n / 4294967296 % 65536, n / 281474976710656].map hv).toArray 22))
  clear LD HR
  go_enter Tryd.func12, Tryd.ntmps12
  go_wp2_with fail
  refine K.out.mono ?_
  rintro e w1 ⟨A1, n1, c1, rfl, L1, B1⟩
  go_wp2_with fail
  go_ret
  exact ⟨_, _, _, rfl, L1, below_step BL.out B1⟩
end Go.Proofs.YthollkngfibgaaaDoor
namespace Go.Proofs.YthollkngfibgaaaDoor
open Go.RowKit
set_option linter.unusedVariables false
set_option linter.unusedSimpArgs false

theorem dtext_last {x : Nat} (h : x / 10 = 0) : dtext x = [dig (x % 10)] := by
  have e : x % 10 = x := by omega
  rw [e]
  by_cases hx : x = 0
  · rw [hx, dtext_zero]; rfl
  · rw [dtext_pos hx, tens_pos hx, h, tens_zero, e]; rfl
theorem dtext_step {x : Nat} (h : x / 10 ≠ 0) : dtext x = dtext (x / 10) ++ [dig (x % 10)] := by
  rw [dtext_pos h, dtext_pos (by omega), tens_pos (n := x) (by omega)]
  simp
theorem cat_cons (c : UInt8) (t : List UInt8) : (⟨#[c]⟩ ++ ⟨t.toArray⟩ : ByteArray) = ⟨(c :: t).toArray⟩ := by
  apply ByteArray.ext
  rw [ByteArray.data_append]
  simp
theorem hval_drop (X : List Nat) (k : Nat) (h : k < X.length) : hval (X.drop k) = X[k] + H16 * hval (X.drop (k + 1)) := by
  rw [List.drop_eq_getElem_cons h, hval_cons]
theorem take_set (X ss : List Nat) (i v : Nat) (h : i < X.length) : (X.take (i + 1) ++ ss).set i v = X.take i ++ (v :: ss) := by
  rw [List.take_succ_eq_append_getElem h, List.append_assoc, List.set_append_right _ _ (by simp; omega)]
  simp [Nat.min_eq_left (Nat.le_of_lt h)]
theorem take_at (X ss : List Nat) (i : Nat) (h : i < X.length) : (X.take (i + 1) ++ ss)[i]? = some X[i] := by
  rw [List.getElem?_append_left (by simp; omega), List.getElem?_take, if_pos (by omega), List.getElem?_eq_getElem h]
/-- What is in the inner loop of Text. -/
structure Tdv (w : World) (g : Nat) (X : List Nat) (zs : List Value) (i r : Nat) (wr : World) : Prop where
  ss : ∃ ss, ss.length + i = X.length ∧ Ld ss ∧ hval (X.drop i) = 10 * hval ss + r ∧ (0 < X.length → Hrow wr g (X.take i ++ ss) zs)
  r10 : r < 10
  t : Turn w wr g
section
variable {w : World} {g : Nat} {X : List Nat} {zs : List Value} {i r : Nat} {wr : World}
theorem Tdv.cell (h : Tdv w g X zs (i + 1) r wr) (hx : i < X.length) : wr.cell? ⟨g, i, none⟩ = some (.int .u64 (X[i] : Int)) ∧ wr.frozen? ⟨g, i, none⟩ = false := by
  obtain ⟨ss, a, b, c, q⟩ := h.ss
  exact ⟨(q (by omega)).cell' (take_at X ss i hx), (q (by omega)).melt _⟩
theorem Tdv.step (h : Tdv w g X zs (i + 1) r wr) (hx : i < X.length) (LX : Ld X) : Tdv w g X zs i ((65536 * r + X[i]) % 10) (wr.setCell ⟨g, i, none⟩ (hv ((65536 * r + X[i]) / 10))) := by
  obtain ⟨ss, a, b, c, q⟩ := h.ss
  have bx := LX.at_ i hx
  have br := h.r10
  refine ⟨⟨((65536 * r + X[i]) / 10) :: ss, by simp; omega, .cons (by omega) b, ?_, fun z => ?_⟩, Nat.mod_lt _ (by decide), h.t.setCell _ _⟩
  · rw [hval_drop X i hx, c, hval_cons, H16_eq]; omega
  · have := (q z).set_ i (by simp; omega) ((65536 * r + X[i]) / 10)
    rwa [take_set X ss i _ hx] at this
theorem Tdv.done (h : Tdv w g X zs 0 r wr) : ∃ ss, ss.length = X.length ∧ Ld ss ∧ hval X = 10 * hval ss + r ∧ (0 < X.length → Hrow wr g ss zs) := by
  obtain ⟨ss, a, b, c, q⟩ := h.ss
  exact ⟨ss, by omega, b, by simpa using c, fun z => by simpa using q z⟩
end
theorem u64_quo (r x : Nat) : Value.int IntKind.u64 ((65536 * (r : Int) + (x : Int)) / 10) = hv ((65536 * r + x) / 10) := congrArg (Value.int .u64) (by omega)
theorem u64_rem (r x : Nat) : Value.int IntKind.u64 ((65536 * (r : Int) + (x : Int)) % 10) = hv ((65536 * r + x) % 10) := congrArg (Value.int .u64) (by omega)
theorem conv_byte (W : World) (r : Nat) (hr : r < 10) : (convert 92 9 (.slice (some ⟨W.heap.size, 0, none⟩) 1 1)).run Tryd.prog (W.alloc (.cells #[.int .u8 (48 + (r : Int))] 5)) = .ok (.string ⟨[dig r].toArray⟩) (W.alloc (.cells #[.int .u8 (48 + (r : Int))] 5)) := by
  refine run_convert_bytes_back _ 92 9 5 ⟨W.heap.size, 0, none⟩ _ [dig r] Tryd.underlying92 Tryd.underlying5 Tryd.underlying9 ?_
  intro j hj
  have j0 : j = 0 := by simpa using hj
  subst j0
  have ha : (⟨W.heap.size, 0, none⟩ : Addr).add 0 = ⟨W.heap.size, 0, none⟩ := by unfold Addr.add; rw [if_pos rfl]
  rw [ha]
  have := dig_toNat hr
  simp only [List.getElem_cons_zero]
  rw [this]
  simp [go_sem]

end Go.Proofs.YthollkngfibgaaaDoor
namespace Go.Proofs.YthollkngfibgaaaDoor
open Go.RowKit
set_option linter.unusedVariables false
set_option linter.unusedSimpArgs false

theorem addr_zero (ad : Addr) : ad.add 0 = ad := by unfold Addr.add; rw [if_pos rfl]
set_option maxHeartbeats 4000000 in
set_option maxRecDepth 100000 in
theorem reduce3_any {A A' : Option Addr} {n c n' c' a b : Nat} {w : World} (ha : Lim w A n c (limbs a)) (hb : Lim w A' n' c' (limbs b)) (la : ln a ≤ 64) (lb : ln b ≤ 64) (b0 : b ≠ 0) : Calls Tryd.prog 11 #[.slice A n c, .slice A' n' c'] w fun e w' => RetR (a / Nat.gcd a b) (b / Nat.gcd a b) w e w' := by
  have lg := ln_gcd la lb
  obtain ⟨g, hg⟩ : ∃ g, Nat.gcd a b = g := ⟨_, rfl⟩
  have g0 : g ≠ 0 := by
    intro z
    rw [z] at hg
    exact b0 (Nat.eq_zero_of_gcd_eq_zero_right hg)
  rw [hg] at lg ⊢
  have HG := Lib.hid hg
  have S := (((Fs.start w).put ha).put hb).box (.slice none 0 0) (.slice none 0 0)
  clear ha hb hg b0
  go_enter Tryd.func11, Tryd.ntmps11
  go_wp2_with fail
  generalize w.alloc (.cells #[.slice none 0 0, .slice none 0 0] 30) = w0 at *
  have K := refGcd_any S.lie.2.1 S.lie.1 la lb
  rw [HG.out] at K
  refine K.mono ?_
  clear K
  rintro e w1 ⟨A1, n1, c1, rfl, L1, B1⟩
  have S := (S.next B1).put L1
  clear L1 B1
  go_wp2_with fail
  refine (refDiv_any S.lie.2.2.1 S.lie.1 la lg g0).mono ?_
  rintro e w2 ⟨A2, n2, c2, A3, n3, c3, rfl, L2, L3, B2⟩
  have S := (S.next B2).put L2
  clear L2 L3 B2
  go_wp2_with fail
  refine (refDiv_any S.lie.2.2.1 S.lie.2.1 lb lg g0).mono ?_
  rintro e w4 ⟨A4, n4, c4, A5, n5, c5, rfl, L4, L5, B4⟩
  have S := (S.next B4).put L4
  clear L4 L5 B4
  obtain ⟨⟨c0, c1, m0, m1, sz⟩, _⟩ := S.cel
  go_wp2_with fail
  go_light
  exact bodyPost_ret (v := .agg #[.slice A2 n2 c2, .slice A4 n4 c4]) (by simp [results, Tryd.results11, go_sem, c0, c1]) rfl ⟨_, _, _, _, _, _, rfl, S.lie.2.1.put2 c0 c1 _ _, S.lie.1.put2 c0 c1 _ _, (S.bl.setCell (Nat.le_refl _) _).setCell (Nat.le_refl _) _⟩
end Go.Proofs.YthollkngfibgaaaDoor
