/- The document's answers: the walk of Div. -/
import Derived.Test.YtnacokogihanoaaDoorRefTwo
import Derived.Test.YtnacokogihanoaaDoorWalkX
import Derived.Test.YtnacokogihanoaaDoorWalkZ
import Derived.Test.YtnacokogihanoaaDoorRefBits
namespace Go.Proofs.YtnacokogihanoaaDoor
open Go.RowKit
set_option linter.unusedVariables false
set_option linter.unusedSimpArgs false

theorem two_ln {r k : Nat} (h : ln r ≤ 64) (hk : k ≤ 1) : ln (2 * r + k) ≤ 65 := by
  refine ln_le ?_
  have a := lt_ln r
  have b := Nat.pow_le_pow_right B_pos h
  rw [show (65 : Nat) = 64 + 1 from rfl, Nat.pow_succ]
  have : B ^ 64 * 2 ≤ B ^ 64 * B := Nat.mul_le_mul_left _ (by rw [B_eq]; decide)
  omega
theorem sgn_nonneg {a b : Nat} (h : b ≤ a) : 0 ≤ sgn a b := by
  rcases Nat.lt_or_eq_of_le h with k | k
  · rw [sgn_gt k]; omega
  · rw [k, sgn_eq]; omega
/-- What is in the loop of Div. -/
structure Dvs (w : World) (a b g : Nat) (vq vr : Value) (wr : World) : Prop where
  q : ∃ A n c, vq = .slice A n c ∧ n ≤ 64 ∧ Lim wr A n c (limbs (a / 2 ^ g / b))
  r : ∃ A n c, vr = .slice A n c ∧ n ≤ 64 ∧ Lim wr A n c (limbs (a / 2 ^ g % b))
  bl : Below w.heap.size w wr
theorem quo32 (k : Nat) : (k : Int).tdiv 32 = ((k / 32 : Nat) : Int) := (Int.ofNat_tdiv k 32).symm
theorem rem32 (k : Nat) : (k : Int).tmod 32 = ((k % 32 : Nat) : Int) := (Int.ofNat_tmod k 32).symm

set_option maxHeartbeats 4000000 in
set_option maxRecDepth 100000 in
theorem refDiv_any {A A' : Option Addr} {n c n' c' a b : Nat} {w : World} (ha : Lim w A n c (limbs a)) (hb : Lim w A' n' c' (limbs b)) (la : ln a ≤ 64) (lb : ln b ≤ 64) (b0 : b ≠ 0) :
    Calls Tryd.prog 84 #[.slice A n c, .slice A' n' c'] w fun e w' => RetD (a / b) (a % b) w e w' := by
  have hl := ha.len; have hl' := hb.len
  rw [limbs_length] at hl hl'
  have KB := refBits_any ha (by omega)
  rw [val_limbs] at KB
  have KB := Lib.hid KB
  have BB : bl a ≤ 32 * n := bl_le (by rw [two_32, ← hl]; exact lt_ln a)
  have S0 : Dvs w a b (bl a) (.slice none 0 0) (.slice none 0 0) w := by
    have e : a / 2 ^ bl a = 0 := Nat.div_eq_of_lt (lt_bl a)
    refine ⟨⟨none, 0, 0, rfl, by omega, ?_⟩, ⟨none, 0, 0, rfl, by omega, ?_⟩, Below.refl _ _⟩
    · rw [e, Nat.zero_div]; exact lim_zero _ _ _ (by omega)
    · rw [e, Nat.zero_mod]; exact lim_zero _ _ _ (by omega)
  have HA := Lib.hid ha; have HB := Lib.hid hb
  have HL := Lib.hid hl
  have n64 : n ≤ 64 := by omega
  have n64' : n' ≤ 64 := by omega
  obtain ⟨G, hG⟩ : ∃ G, bl a = G := ⟨_, rfl⟩
  have HG := Lib.hid hG
  rw [hG] at KB BB S0
  clear ha hb hl hl' hG
  go_enter Tryd.func84, Tryd.ntmps84
  go_wp2_with fail
  refine KB.out.mono ?_
  rintro e w' ⟨rfl, rfl⟩
  go_wp2_with fail
  go_loopg [6, 7, 8] G (fun g s6 s7 s8 wr => g ≤ G ∧ s8 = .int .i64 ((g : Int) - 1) ∧ Dvs w a b g s6 s7 wr)
  case atStart => exact ⟨Nat.le_refl _, rfl, S0⟩
  case round =>
    clear S0
    obtain ⟨hg, rfl, S⟩ := hrel
    obtain ⟨⟨A6, n6, c6, rfl, h6, L6⟩, ⟨A7, n7, c7, rfl, h7, L7⟩, BL⟩ := S
    have BL := Lib.hid BL
    by_cases hz : gk = 0
    · subst hz
      have ek : ((0 : Nat) : Int) - 1 = -1 := by omega
      rw [ek]
      rw [Nat.pow_zero, Nat.div_one] at L6 L7
      have L6 := Lib.hid L6; have L7 := Lib.hid L7
      clear ek
      go_wp2_with fail
      go_ret2
      exact ⟨_, _, _, _, _, _, rfl, L6.out, L7.out, BL.out⟩
    · obtain ⟨k, rfl⟩ : ∃ k, gk = k + 1 := ⟨gk - 1, by omega⟩
      have ek : ((k + 1 : Nat) : Int) - 1 = (k : Int) := by omega
      rw [ek]
      have kn : k / 32 < n := by omega
      have kx : k / 32 < (limbs a).length := by rw [limbs_length, HL.out]; exact kn
      obtain ⟨ad, rfl, c1⟩ := (HA.out.next BL.out).at_ (k / 32) kx
      have EB := bit_limb (lo_limbs a) (k / 32) (k % 32) kx (Nat.mod_lt _ (by decide))
      rw [val_limbs, show 32 * (k / 32) + k % 32 = k by omega] at EB
      have bx := (lo_limbs a).at_ _ kx
      generalize (limbs a)[k / 32] = x at *
      have e1 := quo32 k
      have e2 := rem32 k
      have e3 : ((x : Int) / 2 ^ (k % 32)).tmod 2 = ((a / 2 ^ k % 2 : Nat) : Int) := by rw [bits_cast, tmod_two, EB]
      have kn' : ((k / 32 : Nat) : Int) < n := by omega
      have kn0 : (0 : Int) ≤ ((k / 32 : Nat) : Int) := by omega
      have km : (0 : Int) ≤ ((k % 32 : Nat) : Int) := by omega
      have km2 : ((k % 32 : Nat) : Int) < 32 := by omega
      have hk0 : (0 : Int) ≤ k := by omega
      have bit1 : a / 2 ^ k % 2 ≤ 1 := by omega
      have LQ : Hid (ln (a / 2 ^ k / b) ≤ 64) := Nat.le_trans (ln_mono (Nat.le_trans (Nat.div_le_self _ _) (Nat.div_le_self _ _))) la
      have LR : Hid (ln (a / 2 ^ k % b) ≤ 64) := Nat.le_trans (ln_mono (Nat.le_of_lt (Nat.mod_lt _ (Nat.pos_of_ne_zero b0)))) lb
      have D := bit_down a k
      generalize hs : a / 2 ^ (k + 1) = s at *
      generalize a / 2 ^ k % 2 = bit at *
      have DS := dv_step (b := b) (q := s / b) (r := s % b) (s := s) (k := bit) (Nat.div_add_mod s b).symm (Nat.mod_lt _ (Nat.pos_of_ne_zero b0))
      have lr : ln (s % b) ≤ 64 := by rw [← limbs_length, L7.len]; exact h7
      have l2 := two_ln lr bit1
      have K1 := Lib.hid (twice_any L7 bit1 (by omega))
      have lt_b : s % b < b := Nat.mod_lt _ (Nat.pos_of_ne_zero b0)
      generalize hr : s % b = r at *
      generalize hq : s / b = q at *
      have hk32 : k ≤ 2048 := by omega
      by_cases cs : b ≤ 2 * r + bit
      · obtain ⟨d1, d2⟩ := DS.1 cs bit1
        have hs0 := sgn_nonneg cs
        have D1 : Hid (2 * q + 1 = a / 2 ^ k / b) := by unfold Hid; rw [D, d1]
        have D2 : Hid (2 * r + bit - b = a / 2 ^ k % b) := by unfold Hid; rw [D, d2]
        have L6 := Lib.hid L6
        clear DS EB L7 D hr hq hs d1 d2
        go_wp2_with fail
        refine K1.out.mono ?_
        rintro e w1 ⟨A1, n1, c1', rfl, M1, B1⟩
        have B01 := below_step BL.out B1
        have hn1 : n1 ≤ 65 := by rw [← M1.len, limbs_length]; exact l2
        have K2 := Lib.hid (refCmp_any M1 (HB.out.next B01) (by omega) (by omega))
        have M1 := Lib.hid M1; have B1 := Lib.hid B1; have B01 := Lib.hid B01
        generalize sgn (2 * r + bit) b = sg at *
        go_wp2_with fail
        refine K2.out.mono ?_
        rintro e w2 ⟨rfl, m2, hw2⟩
        have B2 : Below w1.heap.size w1 w2 := by rw [hw2]; exact below_drewN (Below.refl _ _) m2
        have B02 := Lib.hid (below_step B01.out B2)
        have K3 := refSub_any (M1.out.next B2) (HB.out.next B02.out) (by omega) (by
          rw [← M1.out.len, ← HB.out.len, limbs_length, limbs_length]; exact ln_mono cs) (by rw [val_limbs, val_limbs]; exact cs)
        rw [val_limbs, val_limbs, D2.out] at K3
        have K3 := Lib.hid K3
        have L62 := Lib.hid ((L6.out.next B1.out).next B2)
        clear hw2 B2
        go_wp2_with fail
        refine K3.out.mono ?_
        rintro e w3 ⟨A3, n3, c3, rfl, M3, B3⟩
        have K4 := twice_any (b := 1) (L62.out.next B3) (by decide) (by omega)
        rw [D1.out] at K4
        have K4 := Lib.hid K4
        have M3 := Lib.hid M3
        have B03 := Lib.hid (below_step B02.out B3)
        clear B3
        go_wp2_with fail
        refine K4.out.mono ?_
        rintro e w4 ⟨A4, n4, c4, rfl, M4, B4⟩
        have ST : Hid (Dvs w a b k (.slice A4 n4 c4) (.slice A3 n3 c3) w4) := ⟨⟨_, _, _, rfl, by rw [← M4.len, limbs_length]; exact LQ.out, M4⟩, ⟨_, _, _, rfl, by rw [← M3.out.len, limbs_length]; exact LR.out, M3.out.next B4⟩, below_step B03.out B4⟩
        clear M4 B4
        go_wp2_with fail
        go_roundg k
        case measure => omega
        case rel =>
          go_light
          exact ⟨by omega, by go_num, ST.out⟩
      · obtain ⟨d1, d2⟩ := DS.2 cs
        have hs0 := sgn_lt (show 2 * r + bit < b by omega)
        have D1 : Hid (2 * q + 0 = a / 2 ^ k / b) := by unfold Hid; rw [D, d1]
        have D2 : Hid (2 * r + bit = a / 2 ^ k % b) := by unfold Hid; rw [D, d2]
        have L6 := Lib.hid L6
        clear DS EB L7 D hr hq hs d1 d2
        go_wp2_with fail
        refine K1.out.mono ?_
        rintro e w1 ⟨A1, n1, c1', rfl, M1, B1⟩
        have B01 := below_step BL.out B1
        have hn1 : n1 ≤ 65 := by rw [← M1.len, limbs_length]; exact l2
        have K2 := refCmp_any M1 (HB.out.next B01) (by omega) (by omega)
        rw [hs0] at K2
        have K2 := Lib.hid K2
        have M1 := Lib.hid (D2.out ▸ M1); have B1 := Lib.hid B1; have B01 := Lib.hid B01
        clear hs0
        go_wp2_with fail
        refine K2.out.mono ?_
        rintro e w2 ⟨rfl, m2, hw2⟩
        have B2 : Below w1.heap.size w1 w2 := by rw [hw2]; exact below_drewN (Below.refl _ _) m2
        have B02 := Lib.hid (below_step B01.out B2)
        have M12 := Lib.hid (M1.out.next B2)
        have K4 := twice_any (b := 0) ((L6.out.next B1.out).next B2) (by decide) (by omega)
        rw [D1.out] at K4
        have K4 := Lib.hid K4
        clear hw2 B2
        go_wp2_with fail
        refine K4.out.mono ?_
        rintro e w4 ⟨A4, n4, c4, rfl, M4, B4⟩
        have ST : Hid (Dvs w a b k (.slice A4 n4 c4) (.slice A1 n1 c1') w4) := ⟨⟨_, _, _, rfl, by rw [← M4.len, limbs_length]; exact LQ.out, M4⟩, ⟨_, _, _, rfl, by rw [← M12.out.len, limbs_length]; exact LR.out, M12.out.next B4⟩, below_step B02.out B4⟩
        clear M4 B4
        go_wp2_with fail
        go_roundg k
        case measure => omega
        case rel =>
          go_light
          exact ⟨by omega, by go_num, ST.out⟩
end Go.Proofs.YtnacokogihanoaaDoor
