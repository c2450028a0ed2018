/- The document's answers: the walk of Gcd. -/
import Derived.Test.YtacobmnghdibaaaJ10
namespace Go.Proofs.Ytacobmnghdibaaa
open Go.RowKit
set_option linter.unusedVariables false
set_option linter.unusedSimpArgs false

theorem even_yes {A : Option Addr} {n c x : Nat} {w : World} (h : Lim w A n c (limbs x)) (hx : x % 2 = 0) : Calls Try.prog 56 #[.slice A n c] w fun e w' => e = .returned (.bool true) ∧ w = w' := by
  have := even_any h
  rw [val_limbs, hx] at this
  exact this
theorem even_no {A : Option Addr} {n c x : Nat} {w : World} (h : Lim w A n c (limbs x)) (hx : x % 2 = 1) : Calls Try.prog 56 #[.slice A n c] w fun e w' => e = .returned (.bool false) ∧ w = w' := by
  have := even_any h
  rw [val_limbs, hx] at this
  exact this
theorem half_nat {A : Option Addr} {n c x : Nat} {w : World} (h : Lim w A n c (limbs x)) (hn : n ≤ 64) : Calls Try.prog 57 #[.slice A n c] w fun e w' => RetN (x / 2) w e w' := by
  have := half_of h (by omega)
  rw [val_limbs] at this
  exact this
/-- A number of at most 64 limbs, as a slice. -/
def Ns (x : Nat) (v : Value) (wr : World) : Prop := ∃ A n c, v = .slice A n c ∧ n ≤ 64 ∧ Lim wr A n c (limbs x)
theorem Ns.next {x : Nat} {v : Value} {w w' : World} (h : Ns x v w) (hb : Below w.heap.size w w') : Ns x v w' := by
  obtain ⟨A, n, c, e, hn, l⟩ := h
  exact ⟨A, n, c, e, hn, l.next hb⟩
theorem Ns.mk {x : Nat} {A : Option Addr} {n c : Nat} {w : World} (h : Lim w A n c (limbs x)) (hx : ln x ≤ 64) : Ns x (.slice A n c) w := ⟨A, n, c, rfl, by rw [← h.len, limbs_length]; exact hx, h⟩
theorem ns_zero {x n : Nat} {A : Option Addr} {c : Nat} {w : World} (h : Lim w A n c (limbs x)) : x = 0 ↔ n = 0 := by
  have := h.len
  rw [limbs_length] at this
  constructor
  · rintro rfl; rw [← this, ln_zero]
  · rintro rfl; exact ln_eq_zero this
theorem bl_lnk {a k : Nat} (h : ln a ≤ k) : bl a ≤ 32 * k := bl_le (by rw [two_32]; exact Nat.lt_of_lt_of_le (lt_ln a) (Nat.pow_le_pow_right B_pos h))
theorem gcd_step {X y g : Nat} (hg : Nat.gcd X y = g) : (X < y → Nat.gcd (y - X) X = g) ∧ (¬ X < y → Nat.gcd (X - y) y = g) := by
  constructor
  · intro h
    rw [gcd_less y X (by omega), Nat.gcd_comm, hg]
  · intro h
    rw [gcd_less X y (by omega), hg]
theorem bl_half {x : Nat} (h : x ≠ 0) : bl (x / 2) + 1 = bl x := (bl_pos h).symm
theorem ln_half {x : Nat} (h : ln x ≤ 64) : ln (x / 2) ≤ 64 := Nat.le_trans (ln_mono (Nat.div_le_self _ _)) h
theorem pow_half (t g : Nat) : 2 ^ (t + 1) * g = 2 ^ t * (2 * g) := by rw [Nat.pow_succ, Nat.mul_assoc]

set_option maxHeartbeats 8000000 in
set_option maxRecDepth 100000 in
theorem refGcd_any {A A' : Option Addr} {n c n' c' a b : Nat} {w : World} (ha : Lim w A n c (limbs a)) (hb : Lim w A' n' c' (limbs b)) (la : ln a ≤ 64) (lb : ln b ≤ 64) :
    Calls Try.prog 32 #[.slice A n c, .slice A' n' c'] w fun e w' => RetN (Nat.gcd a b) w e w' := by
  have za := ns_zero ha; have zb := ns_zero hb
  have hl := ha.len; have hl' := hb.len
  rw [limbs_length] at hl hl'
  by_cases n0 : n = 0
  · subst n0
    obtain rfl := za.2 rfl
    rw [Nat.gcd_zero_left]
    have HB := Lib.hid hb
    clear ha hb hl hl' za zb
    go_enter Try.func32, Try.ntmps32
    go_wp2_with fail
    go_ret
    exact ⟨_, _, _, rfl, HB.out, Below.refl _ _⟩
  · have e1 : ((n : Int) == 0) = false := by simpa using n0
    by_cases m0 : n' = 0
    · subst m0
      obtain rfl := zb.2 rfl
      rw [Nat.gcd_zero_right]
      have HA := Lib.hid ha
      clear ha hb hl hl' za zb
      go_enter Try.func32, Try.ntmps32
      go_wp2_with fail
      go_ret
      exact ⟨_, _, _, rfl, HA.out, Below.refl _ _⟩
    · have e2 : ((n' : Int) == 0) = false := by simpa using m0
      have a0 : a ≠ 0 := fun e => n0 (za.1 e)
      have b0 : b ≠ 0 := fun e => m0 (zb.1 e)
      have BA : bl a ≤ 2048 := bl_lnk la
      have N0 := Lib.hid (Ns.mk ha la); have M0 := Lib.hid (Ns.mk hb lb)
      have LG : Hid (∀ z t, 2 ^ t * z = Nat.gcd a b → ln z ≤ 64) := by
        intro z t h
        refine Nat.le_trans (ln_mono ?_) la
        refine Nat.le_trans ?_ (Nat.le_of_dvd (Nat.pos_of_ne_zero a0) (Nat.gcd_dvd_left a b))
        rw [← h]
        exact Nat.le_mul_of_pos_left _ (Nat.two_pow_pos t)
      have A0 := Lib.hid a0; have B0 := Lib.hid b0; have LA := Lib.hid la; have LB := Lib.hid lb; have BA := Lib.hid BA
      clear ha hb hl hl' za zb n0 m0 a0 b0 la lb
      go_enter Try.func32, Try.ntmps32
      go_wp2_with fail
      go_loopg [0, 1, 5] a (fun x s0 s1 s5 wr => ∃ y t : Nat, s5 = .int .i64 (t : Int) ∧ t ≤ 2048 ∧ Hid (x ≠ 0 ∧ y ≠ 0 ∧ t + bl x ≤ 2048 ∧ 2 ^ t * Nat.gcd x y = Nat.gcd a b ∧ ln x ≤ 64 ∧ ln y ≤ 64) ∧ Hid (Ns x s0 wr) ∧ Hid (Ns y s1 wr) ∧ Hid (Below w.heap.size w wr))
      case atStart => exact ⟨b, 0, rfl, by omega, ⟨A0.out, B0.out, by have := BA.out; omega, by simp, LA.out, LB.out⟩, N0, M0, Below.refl _ _⟩
      case round =>
        obtain ⟨y, t, rfl, ht, HX, NX, NY, BL⟩ := hrel
        obtain ⟨x0, y0, tb, eg, lx, ly⟩ := HX.out
        obtain ⟨A1, n1, c1, rfl, hn1, L1⟩ := NX.out
        obtain ⟨A2, n2, c2, rfl, hn2, L2⟩ := NY.out
        have xp : 0 < bl gk := by have := bl_pos x0; omega
        by_cases both : gk % 2 = 0 ∧ y % 2 = 0
        · have K1 := Lib.hid (even_yes L1 both.1); have K2 := Lib.hid (even_yes L2 both.2)
          have K3 := Lib.hid (half_nat L1 hn1)
          have HY : Hid (gk / 2 ≠ 0 ∧ y / 2 ≠ 0 ∧ t + 1 + bl (gk / 2) ≤ 2048 ∧ 2 ^ (t + 1) * Nat.gcd (gk / 2) (y / 2) = Nat.gcd a b ∧ ln (gk / 2) ≤ 64 ∧ ln (y / 2) ≤ 64) := by
            refine ⟨by omega, by omega, by have := bl_half x0; omega, ?_, ln_half lx, ln_half ly⟩
            rw [pow_half, ← gcd_both _ _ both.1 both.2, eg]
          have ht1 : t + 1 ≤ 2048 := by omega
          have L2 := Lib.hid L2
          have GX := Lib.hid (show gk / 2 < gk by omega)
          clear L1 both eg x0 y0 tb xp HX
          go_wp2_with fail
          refine K1.out.mono ?_
          rintro e w' ⟨rfl, rfl⟩
          go_wp2_with fail
          refine K2.out.mono ?_
          rintro e w' ⟨rfl, rfl⟩
          go_wp2_with fail
          refine K3.out.mono ?_
          rintro e w1 ⟨A3, n3, c3, rfl, L3, B3⟩
          have K4 := Lib.hid (half_nat (L2.out.next B3) hn2)
          have L3 := Lib.hid L3; have B03 := Lib.hid (below_step BL.out B3)
          clear B3
          go_wp2_with fail
          refine K4.out.mono ?_
          rintro e w2 ⟨A4, n4, c4, rfl, L4, B4⟩
          have N3 := Lib.hid ((Ns.mk L3.out HY.out.2.2.2.2.1).next B4)
          have N4 := Lib.hid (Ns.mk L4 HY.out.2.2.2.2.2)
          have B04 := Lib.hid (below_step B03.out B4)
          clear L4 B4
          go_wp2_with fail
          go_roundg (gk / 2)
          case measure => exact GX.out
          case rel =>
            go_light
            exact ⟨y / 2, t + 1, by go_num, ht1, HY, N3, N4, B04⟩
        · have JJ : Hid ((gk % 2 = 1 ∨ y % 2 = 1) ∧ y ≠ 0) := ⟨by omega, y0⟩
          have EG := Lib.hid eg
          have LX := Lib.hid lx; have LY := Lib.hid ly
          by_cases xe : gk % 2 = 0
          · have K1 := Lib.hid (even_yes L1 xe); have K2 := Lib.hid (even_no L2 (by omega))
            clear L1 L2 both eg x0 y0 tb xp HX xe lx ly
            go_wp2_with fail
            refine K1.out.mono ?_
            rintro e w' ⟨rfl, rfl⟩
            go_wp2_with fail
            refine K2.out.mono ?_
            rintro e w' ⟨rfl, rfl⟩
            go_wp2_with fail
            obtain ⟨g, hg⟩ : ∃ g, Nat.gcd gk y = g := ⟨_, rfl⟩
            have EG : Hid (2 ^ t * g = Nat.gcd a b) := by unfold Hid; rw [← hg]; exact EG.out
            have J0 : Hid (Nat.gcd gk y = g ∧ y ≠ 0 ∧ (gk % 2 = 1 ∨ y % 2 = 1) ∧ ln gk ≤ 64 ∧ ln y ≤ 64) := ⟨hg, JJ.out.2, JJ.out.1, LX.out, LY.out⟩
            clear hg JJ LX LY
            go_loopg [0, 1] (gk + y) (fun q s0 s1 wq => ∃ x y : Nat, Hid (x + y = q) ∧ Hid (Nat.gcd x y = g ∧ y ≠ 0 ∧ (x % 2 = 1 ∨ y % 2 = 1) ∧ ln x ≤ 64 ∧ ln y ≤ 64) ∧ Hid (Ns x s0 wq) ∧ Hid (Ns y s1 wq) ∧ Hid (Below w.heap.size w wq))
            case atStart => exact ⟨gk, y, rfl, J0, NX, NY, BL⟩
            case round =>
              clear J0 NX NY BL
              obtain ⟨x, y, HQ, J, NX, NY, BL⟩ := hrel
              obtain ⟨A1, n1, c1, rfl, hn1, L1⟩ := NX.out
              obtain ⟨A2, n2, c2, rfl, hn2, L2⟩ := NY.out
              have zx := ns_zero L1
              clear L1 L2
              by_cases x0 : x = 0
              · obtain rfl := zx.1 x0
                have EZ : Hid (2 ^ t * y = Nat.gcd a b) := by
                  have := J.out.1
                  rw [x0, Nat.gcd_zero_left] at this
                  unfold Hid
                  rw [this]; exact EG.out
                clear zx x0 J NX HQ
                go_wp2_with fail
                go_loopg [1, 5] t (fun q s1 s5 wq => ∃ z : Nat, s5 = .int .i64 (q : Int) ∧ q ≤ 2048 ∧ Hid (2 ^ q * z = Nat.gcd a b) ∧ Hid (Ns z s1 wq) ∧ Hid (Below w.heap.size w wq))
                case atStart => exact ⟨y, rfl, ht, EZ, NY, BL⟩
                case round =>
                  clear EZ NY BL
                  obtain ⟨z, rfl, hq, EZ, NZ, BL⟩ := hrel
                  obtain ⟨A3, n3, c3, rfl, hn3, L3⟩ := NZ.out
                  by_cases q0 : gk = 0
                  · subst q0
                    have E1 : Hid (z = Nat.gcd a b) := by have := EZ.out; rw [Nat.pow_zero, Nat.one_mul] at this; exact this
                    have L3 := Lib.hid L3
                    clear NZ EZ
                    go_wp2_with fail
                    go_ret
                    exact ⟨_, _, _, rfl, by rw [← E1.out]; exact L3.out, BL.out⟩
                  · obtain ⟨k, rfl⟩ : ∃ k, gk = k + 1 := ⟨gk - 1, by omega⟩
                    have K := Lib.hid (twice_any (b := 0) L3 (by decide) (by omega))
                    have E2 : Hid (2 ^ k * (2 * z + 0) = Nat.gcd a b) := by unfold Hid; rw [Nat.add_zero, ← pow_half]; exact EZ.out
                    have k1 : (0 : Int) < ((k + 1 : Nat) : Int) := by omega
                    clear L3 NZ EZ q0
                    go_wp2_with fail
                    refine K.out.mono ?_
                    rintro e w3 ⟨A4, n4, c4, rfl, L4, B4⟩
                    have N4 := Lib.hid (Ns.mk L4 (LG.out _ _ E2.out))
                    have B04 := Lib.hid (below_step BL.out B4)
                    clear L4 B4
                    go_wp2_with fail
                    go_roundg k
                    case measure => omega
                    case rel =>
                      go_light
                      exact ⟨2 * z + 0, by go_num, by omega, E2, N4, B04⟩
              · have np : 0 < n1 := by
                  rcases Nat.eq_zero_or_pos n1 with e | e
                  · exact absurd (zx.2 e) x0
                  · exact e
                have np' : (0 : Int) < (n1 : Int) := by omega
                have I0 : Hid (x ≠ 0 ∧ Nat.gcd x y = g ∧ (x % 2 = 1 ∨ y % 2 = 1) ∧ ln x ≤ 64) := ⟨x0, J.out.1, J.out.2.2.1, J.out.2.2.2.1⟩
                have YY : Hid (y ≠ 0 ∧ ln y ≤ 64) := ⟨J.out.2.1, J.out.2.2.2.2⟩
                clear zx J x0
                go_wp2_with fail
                go_loopg [0] x (fun q s0 wq => Hid (q ≤ x) ∧ Hid (q ≠ 0 ∧ Nat.gcd q y = g ∧ (q % 2 = 1 ∨ y % 2 = 1) ∧ ln q ≤ 64) ∧ Hid (Ns q s0 wq) ∧ Hid (Ns y (.slice A2 n2 c2) wq) ∧ Hid (Below w.heap.size w wq))
                case atStart => exact ⟨Nat.le_refl x, I0, NX, NY, BL⟩
                case round =>
                  clear I0 NX NY BL np np'
                  obtain ⟨QX, I, NX, NY, BL⟩ := hrel
                  obtain ⟨X, rfl⟩ : ∃ X, X = gk := ⟨gk, rfl⟩
                  obtain ⟨A3, n3, c3, rfl, hn3, L3⟩ := NX.out
                  have zx := ns_zero L3
                  have np : 0 < n3 := by
                    rcases Nat.eq_zero_or_pos n3 with e | e
                    · exact absurd (zx.2 e) I.out.1
                    · exact e
                  have np' : (0 : Int) < (n3 : Int) := by omega
                  by_cases xe : X % 2 = 0
                  · have K1 := Lib.hid (even_yes L3 xe)
                    have K2 := Lib.hid (half_nat L3 hn3)
                    have I2 : Hid (X / 2 ≠ 0 ∧ Nat.gcd (X / 2) y = g ∧ (X / 2 % 2 = 1 ∨ y % 2 = 1) ∧ ln (X / 2) ≤ 64) := by
                      obtain ⟨i1, i2, i3, i4⟩ := I.out
                      have yo : y % 2 = 1 := by omega
                      exact ⟨by omega, by rw [gcd_left X y xe yo, i2], Or.inr yo, ln_half i4⟩
                    have Q2 : Hid (X / 2 ≤ x) := by have := QX.out; unfold Hid; omega
                    have GX : Hid (X / 2 < X) := by have := I.out.1; unfold Hid; omega
                    clear L3 I QX zx xe
                    go_wp2_with fail
                    refine K1.out.mono ?_
                    rintro e w' ⟨rfl, rfl⟩
                    go_wp2_with fail
                    refine K2.out.mono ?_
                    rintro e w3 ⟨A4, n4, c4, rfl, L4, B4⟩
                    have N4 := Lib.hid (Ns.mk L4 I2.out.2.2.2)
                    have NY2 := Lib.hid (NY.out.next B4)
                    have B04 := Lib.hid (below_step BL.out B4)
                    clear L4 B4
                    go_wp2_with fail
                    go_roundg (X / 2)
                    case measure => exact GX.out
                    case rel =>
                      go_light
                      exact ⟨Q2, I2, N4, NY2, B04⟩
                  · have K1 := Lib.hid (even_no L3 (by omega))
                    have XO : Hid (X % 2 = 1) := by unfold Hid; omega
                    have I0 : Hid (y ≠ 0 ∧ Nat.gcd X y = g ∧ ln y ≤ 64) := ⟨YY.out.1, I.out.2.1, YY.out.2⟩
                    have XX : Hid (X ≠ 0 ∧ ln X ≤ 64) := ⟨I.out.1, I.out.2.2.2⟩
                    clear L3 I zx xe np np'
                    go_wp2_with fail
                    refine K1.out.mono ?_
                    rintro e w' ⟨rfl, rfl⟩
                    go_wp2_with fail
                    go_loopg [1] y (fun q s1 wq => Hid (q ≤ y) ∧ Hid (q ≠ 0 ∧ Nat.gcd X q = g ∧ ln q ≤ 64) ∧ Hid (Ns X (.slice A3 n3 c3) wq) ∧ Hid (Ns q s1 wq) ∧ Hid (Below w.heap.size w wq))
                    case atStart => exact ⟨Nat.le_refl y, I0, NX, NY, BL⟩
                    case round =>
                      clear I0 NX NY BL K1
                      obtain ⟨QY, I, NX, NY, BL⟩ := hrel
                      obtain ⟨Y, rfl⟩ : ∃ Y, Y = gk := ⟨gk, rfl⟩
                      obtain ⟨A4, n4, c4, rfl, hn4, L4⟩ := NY.out
                      by_cases ye : Y % 2 = 0
                      · have K1 := Lib.hid (even_yes L4 ye)
                        have K2 := Lib.hid (half_nat L4 hn4)
                        have I2 : Hid (Y / 2 ≠ 0 ∧ Nat.gcd X (Y / 2) = g ∧ ln (Y / 2) ≤ 64) := by
                          obtain ⟨i1, i2, i4⟩ := I.out
                          exact ⟨by omega, by rw [gcd_right X Y XO.out ye, i2], ln_half i4⟩
                        have Q2 : Hid (Y / 2 ≤ y) := by have := QY.out; unfold Hid; omega
                        have GX : Hid (Y / 2 < Y) := by have := I.out.1; unfold Hid; omega
                        clear L4 I QY ye
                        go_wp2_with fail
                        refine K1.out.mono ?_
                        rintro e w' ⟨rfl, rfl⟩
                        go_wp2_with fail
                        refine K2.out.mono ?_
                        rintro e w3 ⟨A5, n5, c5, rfl, L5, B5⟩
                        have N5 := Lib.hid (Ns.mk L5 I2.out.2.2)
                        have NX2 := Lib.hid (NX.out.next B5)
                        have B05 := Lib.hid (below_step BL.out B5)
                        clear L5 B5
                        go_wp2_with fail
                        go_roundg (Y / 2)
                        case measure => exact GX.out
                        case rel =>
                          go_light
                          exact ⟨Q2, I2, NX2, N5, B05⟩
                      · have K1 := Lib.hid (even_no L4 (by omega))
                        have YO : Hid (Y % 2 = 1) := by unfold Hid; omega
                        obtain ⟨A3', n3', c3', e3, hn3', L3⟩ := NX.out
                        injection e3 with e3a e3b e3c
                        subst e3a e3b e3c
                        have GS := Lib.hid (gcd_step I.out.2.1)
                        have K2 := refCmp_any L3 L4 (by have := XX.out.2; omega) (by have := I.out.2.2; omega)
                        have LYY := Lib.hid I.out.2.2
                        have MQ : Hid (X + Y ≤ x + y ∧ 0 < X ∧ 0 < Y) := ⟨by have := QX.out; have := QY.out; omega, Nat.pos_of_ne_zero XX.out.1, Nat.pos_of_ne_zero I.out.1⟩
                        by_cases xy : X < Y
                        · rw [sgn_lt xy] at K2
                          have K2 := Lib.hid K2
                          have J2 : Hid (Nat.gcd (Y - X) X = g ∧ X ≠ 0 ∧ ((Y - X) % 2 = 1 ∨ X % 2 = 1) ∧ ln (Y - X) ≤ 64 ∧ ln X ≤ 64) := ⟨GS.out.1 xy, XX.out.1, Or.inr XO.out, Nat.le_trans (ln_mono (Nat.sub_le _ _)) LYY.out, XX.out.2⟩
                          have K3 : Hid (∀ W, Below wr.heap.size wr W → Calls Try.prog 59 #[.slice A4 n4 c4, .slice A3 n3 c3] W fun e w' => RetN (Y - X) W e w') := by
                            intro W hW
                            have K3 := refSub_any (L4.next hW) (L3.next hW) (by omega) (by rw [← L3.len, ← L4.len, limbs_length, limbs_length]; exact ln_mono (by omega)) (by rw [val_limbs, val_limbs]; omega)
                            rw [val_limbs, val_limbs] at K3
                            exact K3
                          have MM : Hid (Y - X + X < x + y) := by have := MQ.out; unfold Hid; omega
                          clear L3 L4 ye xy GS
                          go_wp2_with fail
                          refine K1.out.mono ?_
                          rintro e w' ⟨rfl, rfl⟩
                          go_wp2_with fail
                          refine K2.out.mono ?_
                          rintro e w3 ⟨rfl, m3, hw3⟩
                          have B3 : Below wr.heap.size wr w3 := by rw [hw3]; exact below_drewN (Below.refl _ _) m3
                          have K4 := Lib.hid (K3.out w3 B3)
                          have NX3 := Lib.hid (NX.out.next B3)
                          have B03 := Lib.hid (below_step BL.out B3)
                          clear hw3 B3
                          go_wp2_with fail
                          refine K4.out.mono ?_
                          rintro e w4 ⟨A6, n6, c6, rfl, L6, B6⟩
                          have N6 := Lib.hid (Ns.mk L6 J2.out.2.2.2.1)
                          have NX6 := Lib.hid (NX3.out.next B6)
                          have B06 := Lib.hid (below_step B03.out B6)
                          clear L6 B6
                          go_wp2_with fail
                          go_roundg (Y - X + X)
                          case measure => rw [← HQ.out]; exact MM.out
                          case rel =>
                            go_light
                            exact ⟨Y - X, X, rfl, J2, N6, NX6, B06⟩
                        · have hs0 := sgn_nonneg (show Y ≤ X by omega)
                          have J2 : Hid (Nat.gcd (X - Y) Y = g ∧ Y ≠ 0 ∧ ((X - Y) % 2 = 1 ∨ Y % 2 = 1) ∧ ln (X - Y) ≤ 64 ∧ ln Y ≤ 64) := ⟨GS.out.2 xy, I.out.1, Or.inr YO.out, Nat.le_trans (ln_mono (Nat.sub_le _ _)) XX.out.2, LYY.out⟩
                          have K3 : Hid (∀ W, Below wr.heap.size wr W → Calls Try.prog 59 #[.slice A3 n3 c3, .slice A4 n4 c4] W fun e w' => RetN (X - Y) W e w') := by
                            intro W hW
                            have K3 := refSub_any (L3.next hW) (L4.next hW) (by omega) (by rw [← L3.len, ← L4.len, limbs_length, limbs_length]; exact ln_mono (by omega)) (by rw [val_limbs, val_limbs]; omega)
                            rw [val_limbs, val_limbs] at K3
                            exact K3
                          have MM : Hid (X - Y + Y < x + y) := by have := MQ.out; unfold Hid; omega
                          generalize sgn X Y = sg at *
                          have K2 := Lib.hid K2
                          have hs1 : ¬ sg < 0 := by omega
                          clear L3 L4 ye xy GS
                          go_wp2_with fail
                          refine K1.out.mono ?_
                          rintro e w' ⟨rfl, rfl⟩
                          go_wp2_with fail
                          refine K2.out.mono ?_
                          rintro e w3 ⟨rfl, m3, hw3⟩
                          have B3 : Below wr.heap.size wr w3 := by rw [hw3]; exact below_drewN (Below.refl _ _) m3
                          have K4 := Lib.hid (K3.out w3 B3)
                          have NY3 := Lib.hid (NY.out.next B3)
                          have B03 := Lib.hid (below_step BL.out B3)
                          clear hw3 B3
                          go_wp2_with fail
                          refine K4.out.mono ?_
                          rintro e w4 ⟨A6, n6, c6, rfl, L6, B6⟩
                          have N6 := Lib.hid (Ns.mk L6 J2.out.2.2.2.1)
                          have NY6 := Lib.hid (NY3.out.next B6)
                          have B06 := Lib.hid (below_step B03.out B6)
                          clear L6 B6
                          go_wp2_with fail
                          go_roundg (X - Y + Y)
                          case measure => rw [← HQ.out]; exact MM.out
                          case rel =>
                            go_light
                            exact ⟨X - Y, Y, rfl, J2, N6, NY6, B06⟩
          · have K1 := Lib.hid (even_no L1 (by omega))
            clear L1 L2 both eg x0 y0 tb xp HX xe lx ly
            go_wp2_with fail
            refine K1.out.mono ?_
            rintro e w' ⟨rfl, rfl⟩
            go_wp2_with fail
            obtain ⟨g, hg⟩ : ∃ g, Nat.gcd gk y = g := ⟨_, rfl⟩
            have EG : Hid (2 ^ t * g = Nat.gcd a b) := by unfold Hid; rw [← hg]; exact EG.out
            have J0 : Hid (Nat.gcd gk y = g ∧ y ≠ 0 ∧ (gk % 2 = 1 ∨ y % 2 = 1) ∧ ln gk ≤ 64 ∧ ln y ≤ 64) := ⟨hg, JJ.out.2, JJ.out.1, LX.out, LY.out⟩
            clear hg JJ LX LY
            go_loopg [0, 1] (gk + y) (fun q s0 s1 wq => ∃ x y : Nat, Hid (x + y = q) ∧ Hid (Nat.gcd x y = g ∧ y ≠ 0 ∧ (x % 2 = 1 ∨ y % 2 = 1) ∧ ln x ≤ 64 ∧ ln y ≤ 64) ∧ Hid (Ns x s0 wq) ∧ Hid (Ns y s1 wq) ∧ Hid (Below w.heap.size w wq))
            case atStart => exact ⟨gk, y, rfl, J0, NX, NY, BL⟩
            case round =>
              clear J0 NX NY BL
              obtain ⟨x, y, HQ, J, NX, NY, BL⟩ := hrel
              obtain ⟨A1, n1, c1, rfl, hn1, L1⟩ := NX.out
              obtain ⟨A2, n2, c2, rfl, hn2, L2⟩ := NY.out
              have zx := ns_zero L1
              clear L1 L2
              by_cases x0 : x = 0
              · obtain rfl := zx.1 x0
                have EZ : Hid (2 ^ t * y = Nat.gcd a b) := by
                  have := J.out.1
                  rw [x0, Nat.gcd_zero_left] at this
                  unfold Hid
                  rw [this]; exact EG.out
                clear zx x0 J NX HQ
                go_wp2_with fail
                go_loopg [1, 5] t (fun q s1 s5 wq => ∃ z : Nat, s5 = .int .i64 (q : Int) ∧ q ≤ 2048 ∧ Hid (2 ^ q * z = Nat.gcd a b) ∧ Hid (Ns z s1 wq) ∧ Hid (Below w.heap.size w wq))
                case atStart => exact ⟨y, rfl, ht, EZ, NY, BL⟩
                case round =>
                  clear EZ NY BL
                  obtain ⟨z, rfl, hq, EZ, NZ, BL⟩ := hrel
                  obtain ⟨A3, n3, c3, rfl, hn3, L3⟩ := NZ.out
                  by_cases q0 : gk = 0
                  · subst q0
                    have E1 : Hid (z = Nat.gcd a b) := by have := EZ.out; rw [Nat.pow_zero, Nat.one_mul] at this; exact this
                    have L3 := Lib.hid L3
                    clear NZ EZ
                    go_wp2_with fail
                    go_ret
                    exact ⟨_, _, _, rfl, by rw [← E1.out]; exact L3.out, BL.out⟩
                  · obtain ⟨k, rfl⟩ : ∃ k, gk = k + 1 := ⟨gk - 1, by omega⟩
                    have K := Lib.hid (twice_any (b := 0) L3 (by decide) (by omega))
                    have E2 : Hid (2 ^ k * (2 * z + 0) = Nat.gcd a b) := by unfold Hid; rw [Nat.add_zero, ← pow_half]; exact EZ.out
                    have k1 : (0 : Int) < ((k + 1 : Nat) : Int) := by omega
                    clear L3 NZ EZ q0
                    go_wp2_with fail
                    refine K.out.mono ?_
                    rintro e w3 ⟨A4, n4, c4, rfl, L4, B4⟩
                    have N4 := Lib.hid (Ns.mk L4 (LG.out _ _ E2.out))
                    have B04 := Lib.hid (below_step BL.out B4)
                    clear L4 B4
                    go_wp2_with fail
                    go_roundg k
                    case measure => omega
                    case rel =>
                      go_light
                      exact ⟨2 * z + 0, by go_num, by omega, E2, N4, B04⟩
              · have np : 0 < n1 := by
                  rcases Nat.eq_zero_or_pos n1 with e | e
                  · exact absurd (zx.2 e) x0
                  · exact e
                have np' : (0 : Int) < (n1 : Int) := by omega
                have I0 : Hid (x ≠ 0 ∧ Nat.gcd x y = g ∧ (x % 2 = 1 ∨ y % 2 = 1) ∧ ln x ≤ 64) := ⟨x0, J.out.1, J.out.2.2.1, J.out.2.2.2.1⟩
                have YY : Hid (y ≠ 0 ∧ ln y ≤ 64) := ⟨J.out.2.1, J.out.2.2.2.2⟩
                clear zx J x0
                go_wp2_with fail
                go_loopg [0] x (fun q s0 wq => Hid (q ≤ x) ∧ Hid (q ≠ 0 ∧ Nat.gcd q y = g ∧ (q % 2 = 1 ∨ y % 2 = 1) ∧ ln q ≤ 64) ∧ Hid (Ns q s0 wq) ∧ Hid (Ns y (.slice A2 n2 c2) wq) ∧ Hid (Below w.heap.size w wq))
                case atStart => exact ⟨Nat.le_refl x, I0, NX, NY, BL⟩
                case round =>
                  clear I0 NX NY BL np np'
                  obtain ⟨QX, I, NX, NY, BL⟩ := hrel
                  obtain ⟨X, rfl⟩ : ∃ X, X = gk := ⟨gk, rfl⟩
                  obtain ⟨A3, n3, c3, rfl, hn3, L3⟩ := NX.out
                  have zx := ns_zero L3
                  have np : 0 < n3 := by
                    rcases Nat.eq_zero_or_pos n3 with e | e
                    · exact absurd (zx.2 e) I.out.1
                    · exact e
                  have np' : (0 : Int) < (n3 : Int) := by omega
                  by_cases xe : X % 2 = 0
                  · have K1 := Lib.hid (even_yes L3 xe)
                    have K2 := Lib.hid (half_nat L3 hn3)
                    have I2 : Hid (X / 2 ≠ 0 ∧ Nat.gcd (X / 2) y = g ∧ (X / 2 % 2 = 1 ∨ y % 2 = 1) ∧ ln (X / 2) ≤ 64) := by
                      obtain ⟨i1, i2, i3, i4⟩ := I.out
                      have yo : y % 2 = 1 := by omega
                      exact ⟨by omega, by rw [gcd_left X y xe yo, i2], Or.inr yo, ln_half i4⟩
                    have Q2 : Hid (X / 2 ≤ x) := by have := QX.out; unfold Hid; omega
                    have GX : Hid (X / 2 < X) := by have := I.out.1; unfold Hid; omega
                    clear L3 I QX zx xe
                    go_wp2_with fail
                    refine K1.out.mono ?_
                    rintro e w' ⟨rfl, rfl⟩
                    go_wp2_with fail
                    refine K2.out.mono ?_
                    rintro e w3 ⟨A4, n4, c4, rfl, L4, B4⟩
                    have N4 := Lib.hid (Ns.mk L4 I2.out.2.2.2)
                    have NY2 := Lib.hid (NY.out.next B4)
                    have B04 := Lib.hid (below_step BL.out B4)
                    clear L4 B4
                    go_wp2_with fail
                    go_roundg (X / 2)
                    case measure => exact GX.out
                    case rel =>
                      go_light
                      exact ⟨Q2, I2, N4, NY2, B04⟩
                  · have K1 := Lib.hid (even_no L3 (by omega))
                    have XO : Hid (X % 2 = 1) := by unfold Hid; omega
                    have I0 : Hid (y ≠ 0 ∧ Nat.gcd X y = g ∧ ln y ≤ 64) := ⟨YY.out.1, I.out.2.1, YY.out.2⟩
                    have XX : Hid (X ≠ 0 ∧ ln X ≤ 64) := ⟨I.out.1, I.out.2.2.2⟩
                    clear L3 I zx xe np np'
                    go_wp2_with fail
                    refine K1.out.mono ?_
                    rintro e w' ⟨rfl, rfl⟩
                    go_wp2_with fail
                    go_loopg [1] y (fun q s1 wq => Hid (q ≤ y) ∧ Hid (q ≠ 0 ∧ Nat.gcd X q = g ∧ ln q ≤ 64) ∧ Hid (Ns X (.slice A3 n3 c3) wq) ∧ Hid (Ns q s1 wq) ∧ Hid (Below w.heap.size w wq))
                    case atStart => exact ⟨Nat.le_refl y, I0, NX, NY, BL⟩
                    case round =>
                      clear I0 NX NY BL K1
                      obtain ⟨QY, I, NX, NY, BL⟩ := hrel
                      obtain ⟨Y, rfl⟩ : ∃ Y, Y = gk := ⟨gk, rfl⟩
                      obtain ⟨A4, n4, c4, rfl, hn4, L4⟩ := NY.out
                      by_cases ye : Y % 2 = 0
                      · have K1 := Lib.hid (even_yes L4 ye)
                        have K2 := Lib.hid (half_nat L4 hn4)
                        have I2 : Hid (Y / 2 ≠ 0 ∧ Nat.gcd X (Y / 2) = g ∧ ln (Y / 2) ≤ 64) := by
                          obtain ⟨i1, i2, i4⟩ := I.out
                          exact ⟨by omega, by rw [gcd_right X Y XO.out ye, i2], ln_half i4⟩
                        have Q2 : Hid (Y / 2 ≤ y) := by have := QY.out; unfold Hid; omega
                        have GX : Hid (Y / 2 < Y) := by have := I.out.1; unfold Hid; omega
                        clear L4 I QY ye
                        go_wp2_with fail
                        refine K1.out.mono ?_
                        rintro e w' ⟨rfl, rfl⟩
                        go_wp2_with fail
                        refine K2.out.mono ?_
                        rintro e w3 ⟨A5, n5, c5, rfl, L5, B5⟩
                        have N5 := Lib.hid (Ns.mk L5 I2.out.2.2)
                        have NX2 := Lib.hid (NX.out.next B5)
                        have B05 := Lib.hid (below_step BL.out B5)
                        clear L5 B5
                        go_wp2_with fail
                        go_roundg (Y / 2)
                        case measure => exact GX.out
                        case rel =>
                          go_light
                          exact ⟨Q2, I2, NX2, N5, B05⟩
                      · have K1 := Lib.hid (even_no L4 (by omega))
                        have YO : Hid (Y % 2 = 1) := by unfold Hid; omega
                        obtain ⟨A3', n3', c3', e3, hn3', L3⟩ := NX.out
                        injection e3 with e3a e3b e3c
                        subst e3a e3b e3c
                        have GS := Lib.hid (gcd_step I.out.2.1)
                        have K2 := refCmp_any L3 L4 (by have := XX.out.2; omega) (by have := I.out.2.2; omega)
                        have LYY := Lib.hid I.out.2.2
                        have MQ : Hid (X + Y ≤ x + y ∧ 0 < X ∧ 0 < Y) := ⟨by have := QX.out; have := QY.out; omega, Nat.pos_of_ne_zero XX.out.1, Nat.pos_of_ne_zero I.out.1⟩
                        by_cases xy : X < Y
                        · rw [sgn_lt xy] at K2
                          have K2 := Lib.hid K2
                          have J2 : Hid (Nat.gcd (Y - X) X = g ∧ X ≠ 0 ∧ ((Y - X) % 2 = 1 ∨ X % 2 = 1) ∧ ln (Y - X) ≤ 64 ∧ ln X ≤ 64) := ⟨GS.out.1 xy, XX.out.1, Or.inr XO.out, Nat.le_trans (ln_mono (Nat.sub_le _ _)) LYY.out, XX.out.2⟩
                          have K3 : Hid (∀ W, Below wr.heap.size wr W → Calls Try.prog 59 #[.slice A4 n4 c4, .slice A3 n3 c3] W fun e w' => RetN (Y - X) W e w') := by
                            intro W hW
                            have K3 := refSub_any (L4.next hW) (L3.next hW) (by omega) (by rw [← L3.len, ← L4.len, limbs_length, limbs_length]; exact ln_mono (by omega)) (by rw [val_limbs, val_limbs]; omega)
                            rw [val_limbs, val_limbs] at K3
                            exact K3
                          have MM : Hid (Y - X + X < x + y) := by have := MQ.out; unfold Hid; omega
                          clear L3 L4 ye xy GS
                          go_wp2_with fail
                          refine K1.out.mono ?_
                          rintro e w' ⟨rfl, rfl⟩
                          go_wp2_with fail
                          refine K2.out.mono ?_
                          rintro e w3 ⟨rfl, m3, hw3⟩
                          have B3 : Below wr.heap.size wr w3 := by rw [hw3]; exact below_drewN (Below.refl _ _) m3
                          have K4 := Lib.hid (K3.out w3 B3)
                          have NX3 := Lib.hid (NX.out.next B3)
                          have B03 := Lib.hid (below_step BL.out B3)
                          clear hw3 B3
                          go_wp2_with fail
                          refine K4.out.mono ?_
                          rintro e w4 ⟨A6, n6, c6, rfl, L6, B6⟩
                          have N6 := Lib.hid (Ns.mk L6 J2.out.2.2.2.1)
                          have NX6 := Lib.hid (NX3.out.next B6)
                          have B06 := Lib.hid (below_step B03.out B6)
                          clear L6 B6
                          go_wp2_with fail
                          go_roundg (Y - X + X)
                          case measure => rw [← HQ.out]; exact MM.out
                          case rel =>
                            go_light
                            exact ⟨Y - X, X, rfl, J2, N6, NX6, B06⟩
                        · have hs0 := sgn_nonneg (show Y ≤ X by omega)
                          have J2 : Hid (Nat.gcd (X - Y) Y = g ∧ Y ≠ 0 ∧ ((X - Y) % 2 = 1 ∨ Y % 2 = 1) ∧ ln (X - Y) ≤ 64 ∧ ln Y ≤ 64) := ⟨GS.out.2 xy, I.out.1, Or.inr YO.out, Nat.le_trans (ln_mono (Nat.sub_le _ _)) XX.out.2, LYY.out⟩
                          have K3 : Hid (∀ W, Below wr.heap.size wr W → Calls Try.prog 59 #[.slice A3 n3 c3, .slice A4 n4 c4] W fun e w' => RetN (X - Y) W e w') := by
                            intro W hW
                            have K3 := refSub_any (L3.next hW) (L4.next hW) (by omega) (by rw [← L3.len, ← L4.len, limbs_length, limbs_length]; exact ln_mono (by omega)) (by rw [val_limbs, val_limbs]; omega)
                            rw [val_limbs, val_limbs] at K3
                            exact K3
                          have MM : Hid (X - Y + Y < x + y) := by have := MQ.out; unfold Hid; omega
                          generalize sgn X Y = sg at *
                          have K2 := Lib.hid K2
                          have hs1 : ¬ sg < 0 := by omega
                          clear L3 L4 ye xy GS
                          go_wp2_with fail
                          refine K1.out.mono ?_
                          rintro e w' ⟨rfl, rfl⟩
                          go_wp2_with fail
                          refine K2.out.mono ?_
                          rintro e w3 ⟨rfl, m3, hw3⟩
                          have B3 : Below wr.heap.size wr w3 := by rw [hw3]; exact below_drewN (Below.refl _ _) m3
                          have K4 := Lib.hid (K3.out w3 B3)
                          have NY3 := Lib.hid (NY.out.next B3)
                          have B03 := Lib.hid (below_step BL.out B3)
                          clear hw3 B3
                          go_wp2_with fail
                          refine K4.out.mono ?_
                          rintro e w4 ⟨A6, n6, c6, rfl, L6, B6⟩
                          have N6 := Lib.hid (Ns.mk L6 J2.out.2.2.2.1)
                          have NY6 := Lib.hid (NY3.out.next B6)
                          have B06 := Lib.hid (below_step B03.out B6)
                          clear L6 B6
                          go_wp2_with fail
                          go_roundg (X - Y + Y)
                          case measure => rw [← HQ.out]; exact MM.out
                          case rel =>
                            go_light
                            exact ⟨X - Y, Y, rfl, J2, N6, NY6, B06⟩
end Go.Proofs.Ytacobmnghdibaaa
