/- The document's answers: the walks of Right, Small, Cmp, Bits; told. The document's answers: the walk of Bits. The document's answers: the walk of Div. -/
import Derived.Test.YtdnikdocfbbkkaaDoorJ05
import Derived.Test.YtdnikdocfbbkkaaDoorJ11
namespace Go.Proofs.YtdnikdocfbbkkaaDoor
open Go.RowKit
set_option linter.unusedVariables false
set_option linter.unusedSimpArgs false

open Classical in
/-- Are limbs a natural's? -/
noncomputable def ntB (xs : List Nat) : Bool := decide (Nt xs)
theorem ntB_yes {xs : List Nat} (h : Nt xs) : ntB xs = true := by unfold ntB; simpa using h
theorem ntB_no {xs : List Nat} (h : ¬ Nt xs) : ntB xs = false := by unfold ntB; simpa using h

set_option maxRecDepth 100000 in
theorem refRight_yes {A : Option Addr} {n c a : Nat} {w : World} (h : Lim w A n c (limbs a)) (hm : ln a ≤ 64) : Calls Tryd.prog 16 #[.slice A n c] w fun e w' => e = .returned (.bool true) ∧ w = w' := by
  have hl := h.len
  rw [limbs_length] at hl
  by_cases hz : n = 0
  · subst hz
    clear h hl hm
    go_enter Tryd.func16, Tryd.ntmps16
    go_wp2
    go_ret
    exact ⟨rfl, rfl⟩
  · obtain ⟨ad, rfl⟩ := h.some_ (by omega)
    have hc := h.cell (n - 1) (by rw [limbs_length]; omega)
    have hx := last_ne_zero (a := a) (k := n - 1) (by rw [limbs_length]; omega)
    generalize (limbs a)[n - 1]'(by rw [limbs_length]; omega) = x at *
    have h1 : ((n : Int) == 0) = false := by simpa using hz
    have h2 : Hid (0 < x) := by unfold Hid; omega
    have h3 : ¬ (64 : Int) < (n : Int) := by omega
    clear hl h hm hx
    go_enter Tryd.func16, Tryd.ntmps16
    go_wp2
    go_ret
    exact ⟨congrArg (fun b => Ending.returned (.bool b)) (decide_eq_true h2.out), rfl⟩
set_option maxRecDepth 100000 in
theorem refRight_no {A : Option Addr} {n c : Nat} {xs : List Nat} {w : World} (h : Lim w A n c xs) (hm : ¬ Nt xs) : Calls Tryd.prog 16 #[.slice A n c] w fun e w' => e = .returned (.bool false) ∧ w = w' := by
  have hl := h.len
  have hz : n ≠ 0 := by
    rintro rfl
    have e := List.eq_nil_of_length_eq_zero hl
    subst e
    exact hm ⟨by simp, fun hn => absurd rfl hn⟩
  have h1 : ((n : Int) == 0) = false := by simpa using hz
  by_cases k : n ≤ 64
  · obtain ⟨j, ej, e0⟩ := Nt.no hm (by omega)
    obtain ⟨ad, rfl⟩ := h.some_ (by omega)
    have hc := h.cell (n - 1) (by omega)
    have ejn : n - 1 = j := by omega
    have e0' : xs[n - 1]'(by omega) = 0 := by
      have := (List.getElem?_eq_some_iff.1 e0).2
      simpa only [ejn] using this
    rw [e0'] at hc
    have h3 : ¬ (64 : Int) < (n : Int) := by omega
    clear hl h hm e0 e0' ejn ej
    go_enter Tryd.func16, Tryd.ntmps16
    go_wp2
    go_ret
    exact ⟨rfl, rfl⟩
  · have h3 : (64 : Int) < (n : Int) := by omega
    clear hl h hm
    go_enter Tryd.func16, Tryd.ntmps16
    go_wp2
    go_ret
    exact ⟨rfl, rfl⟩
theorem nt_lim {w : World} {A : Option Addr} {n c : Nat} {xs : List Nat} (h : Lim w A n c xs) (k : Nt xs) : Lim w A n c (limbs (val xs)) ∧ ln (val xs) ≤ 64 := by
  refine ⟨k.eq h.lo ▸ h, ?_⟩
  unfold ln
  rw [← k.eq h.lo]
  exact k.1
theorem refRight_any {A : Option Addr} {n c : Nat} {xs : List Nat} {w : World} (h : Lim w A n c xs) : Calls Tryd.prog 16 #[.slice A n c] w fun e w' => e = .returned (.bool (ntB xs)) ∧ w = w' := by
  by_cases k : Nt xs
  · rw [ntB_yes k]; exact refRight_yes (nt_lim h k).1 (nt_lim h k).2
  · rw [ntB_no k]; exact refRight_no h k
theorem right_any {A : Option Addr} {n c : Nat} {xs : List Nat} {w : World} (h : Lim w A n c xs) : Calls Tryd.prog 71 #[.slice A n c] w fun e w' => e = .returned (.bool (ntB xs)) ∧ w = w' := by
  by_cases k : Nt xs
  · rw [ntB_yes k]; exact right_yes (nt_lim h k).1 (nt_lim h k).2
  · rw [ntB_no k]; exact right_no h k
set_option maxRecDepth 100000 in
theorem refSmall_yes (A : Option Addr) (n c : Nat) (w : World) (h : n ≤ 70) : Calls Tryd.prog 14 #[.slice A n c] w fun e w' => e = .returned (.bool true) ∧ w = w' := by
  have h3 : (n : Int) ≤ 70 := by omega
  go_enter Tryd.func14, Tryd.ntmps14
  go_wp2
  go_ret
  exact ⟨rfl, rfl⟩
set_option maxRecDepth 100000 in
theorem refSmall_no (A : Option Addr) (n c : Nat) (w : World) (h : ¬ n ≤ 70) : Calls Tryd.prog 14 #[.slice A n c] w fun e w' => e = .returned (.bool false) ∧ w = w' := by
  have h3 : ¬ (n : Int) ≤ 70 := by omega
  go_enter Tryd.func14, Tryd.ntmps14
  go_wp2
  go_ret
  exact ⟨rfl, rfl⟩

set_option maxHeartbeats 1000000 in
set_option maxRecDepth 100000 in
theorem refCmp_any {A A' : Option Addr} {n c n' c' a b : Nat} {w : World} (ha : Lim w A n c (limbs a)) (hb : Lim w A' n' c' (limbs b)) (la : ln a ≤ 100000) (lb : ln b ≤ 100000) :
    Calls Tryd.prog 93 #[.slice A n c, .slice A' n' c'] w fun e w' => e = .returned (.int .i64 (sgn a b)) ∧ ∃ m, w' = w.drewN m := by
  have HA := Lib.hid ha; have HB := Lib.hid hb
  have hl := ha.len; have hl' := hb.len
  rw [limbs_length] at hl hl'
  by_cases hn : n = n'
  · subst hn
    have EL : Hid (ln a = n) := hl; have EL' : Hid (ln b = n) := hl'
    have n64 : n ≤ 100000 := by omega
    have h0 : ((n : Int) != n) = false := by simp
    clear ha hb hl hl' la lb
    go_enter Tryd.func93, Tryd.ntmps93
    go_wp2_with fail
    go_loopg [5] n (fun g s5 wr => ∃ m, g ≤ n ∧ s5 = .int .i64 ((g : Int) - 1) ∧ Hid ((limbs a).drop g = (limbs b).drop g) ∧ wr = w.drewN m)
    case atStart => exact ⟨0, Nat.le_refl _, rfl, by unfold Hid; rw [List.drop_of_length_le (by rw [limbs_length, EL.out]; exact Nat.le_refl _), List.drop_of_length_le (by rw [limbs_length, EL'.out]; exact Nat.le_refl _)], rfl⟩
    case round =>
      obtain ⟨m, hg, rfl, hv, rfl⟩ := hrel
      by_cases hz : gk = 0
      · subst hz
        have ES : Hid (sgn a b = 0) := by
          have : limbs a = limbs b := by simpa using hv.out
          unfold Hid
          rw [limbs_inj this, sgn_eq]
        have ek : ((0 : Nat) : Int) - 1 = -1 := by omega
        rw [ek]
        clear ek
        go_wp2_with fail
        go_ret
        exact ⟨by rw [ES.out]; rfl, _, rfl⟩
      · obtain ⟨k, rfl⟩ : ∃ k, gk = k + 1 := ⟨gk - 1, by omega⟩
        have ek : ((k + 1 : Nat) : Int) - 1 = (k : Int) := by omega
        rw [ek]
        obtain ⟨ad, rfl⟩ := HA.out.some_ (by omega)
        obtain ⟨ad', rfl⟩ := HB.out.some_ (by omega)
        have ka : k < (limbs a).length := by rw [limbs_length, EL.out]; omega
        have kb : k < (limbs b).length := by rw [limbs_length, EL'.out]; omega
        have c1 := HA.out.cell k ka
        have c2 := HB.out.cell k kb
        by_cases hx : (limbs a)[k] = (limbs b)[k]
        · have HV : Hid ((limbs a).drop k = (limbs b).drop k) := drop_step ka kb hx hv.out
          rw [← hx] at c2
          generalize (limbs a)[k] = x at *
          have h2 : ((x : Int) != x) = false := by simp
          clear hx ek
          go_wp2_with fail
          go_quiet (fail)
          go_wp2_with fail
          go_roundg k
          case measure => omega
          case rel => exact ⟨_, by omega, rfl, HV, rfl⟩
        · have ES := Lib.hid (sgn_top ka kb hv.out hx)
          generalize (limbs a)[k] = x at *
          generalize (limbs b)[k] = y at *
          have h2 : ((x : Int) != y) = true := by simp; omega
          by_cases xy : x < y
          · have xy' : (x : Int) < y := by omega
            rw [sgn_lt xy] at ES
            clear hx ek
            go_wp2_with fail
            go_quiet (fail)
            go_wp2_with fail
            go_quiet (fail)
            go_wp2_with fail
            go_ret
            exact ⟨by rw [← ES.out]; rfl, drew3 _ _ _ _⟩
          · have xy' : ¬ (x : Int) < y := by omega
            rw [sgn_gt (by omega)] at ES
            clear hx ek
            go_wp2_with fail
            go_quiet (fail)
            go_wp2_with fail
            go_quiet (fail)
            go_wp2_with fail
            go_ret
            exact ⟨by rw [← ES.out]; rfl, drew3 _ _ _ _⟩
  · have ES := Lib.hid (sgn_ln (a := a) (b := b) (by omega))
    rw [hl, hl'] at ES
    have h0 : ((n : Int) != n') = true := by simp; omega
    by_cases xy : n < n'
    · have xy' : (n : Int) < n' := by omega
      rw [sgn_lt xy] at ES
      clear ha hb hl hl' la lb
      go_enter Tryd.func93, Tryd.ntmps93
      go_wp2_with fail
      go_ret
      exact ⟨by rw [← ES.out]; rfl, 0, rfl⟩
    · have xy' : ¬ (n : Int) < n' := by omega
      rw [sgn_gt (by omega)] at ES
      clear ha hb hl hl' la lb
      go_enter Tryd.func93, Tryd.ntmps93
      go_wp2_with fail
      go_ret
      exact ⟨by rw [← ES.out]; rfl, 0, rfl⟩
end Go.Proofs.YtdnikdocfbbkkaaDoor
namespace Go.Proofs.YtdnikdocfbbkkaaDoor
open Go.RowKit
set_option linter.unusedVariables false
set_option linter.unusedSimpArgs false

theorem bl_step_one (a p : Nat) (h : a / 2 ^ p % 2 = 1) : bl (a % 2 ^ (p + 1)) = p + 1 := by
  have e := Nat.mod_pow_succ (b := 2) (k := p) (x := a)
  rw [h, Nat.mul_one] at e
  refine bl_of ?_ (Nat.mod_lt _ (Nat.two_pow_pos _))
  rw [e]; omega
theorem bl_step_zero (a p : Nat) (h : a / 2 ^ p % 2 = 0) : bl (a % 2 ^ (p + 1)) = bl (a % 2 ^ p) := by
  have e := Nat.mod_pow_succ (b := 2) (k := p) (x := a)
  rw [h, Nat.mul_zero] at e
  rw [e, Nat.add_zero]
theorem two_32 (i : Nat) : 2 ^ (32 * i) = B ^ i := by rw [Nat.pow_mul, B_eq]
theorem bit_limb {xs : List Nat} (lo : Lo xs) (i k : Nat) (hi : i < xs.length) (hk : k < 32) : val xs / 2 ^ (32 * i + k) % 2 = xs[i] / 2 ^ k % 2 := by
  have e := val_split xs i (by omega)
  rw [val_drop xs i hi] at e
  have l := val_lt (lo.take i)
  rw [List.length_take, Nat.min_eq_left (by omega)] at l
  have p : 0 < B ^ i := Nat.pow_pos B_pos
  have e1 : val xs / 2 ^ (32 * i) = xs[i] + B * val (xs.drop (i + 1)) := by
    rw [two_32, e, Nat.add_mul_div_left _ _ p, Nat.div_eq_of_lt l, Nat.zero_add]
  rw [Nat.pow_add, ← Nat.div_div_eq_div_mul, e1, B_eq, ← pow32 (s := k) (by omega), Nat.mul_assoc, Nat.add_mul_div_left _ _ (Nat.two_pow_pos k)]
  obtain ⟨d, hd⟩ : ∃ d, 32 - k = d + 1 := ⟨32 - k - 1, by omega⟩
  rw [hd, Nat.pow_succ, Nat.mul_comm (2 ^ d) 2, Nat.mul_assoc, Nat.add_mul_mod_self_left]
theorem bits_cast (x k : Nat) : (x : Int) / 2 ^ k = ((x / 2 ^ k : Nat) : Int) := by
  have e : (2 : Int) ^ k = ((2 ^ k : Nat) : Int) := by rw [Int.natCast_pow]; rfl
  rw [e]; rfl
theorem tmod_two (y : Nat) : (y : Int).tmod 2 = ((y % 2 : Nat) : Int) := (Int.ofNat_tmod y 2).symm
theorem mod_all (a : Nat) {n : Nat} (h : a < 2 ^ n) : a % 2 ^ n = a := Nat.mod_eq_of_lt h

set_option maxHeartbeats 2000000 in
set_option maxRecDepth 100000 in
theorem refBits_any {A : Option Addr} {n c : Nat} {xs : List Nat} {w : World} (h : Lim w A n c xs) (hn : n ≤ 100000) : Calls Tryd.prog 126 #[.slice A n c] w fun e w' => e = .returned (.int .i64 (bl (val xs))) ∧ w = w' := by
  have H := Lib.hid h
  have HL := Lib.hid h.len
  have S0 : Hid (bl (val xs % 2 ^ 0) = 0) := by unfold Hid; rw [Nat.pow_zero, Nat.mod_one, bl_zero]
  clear h
  go_enter Tryd.func126, Tryd.ntmps126
  go_wp2_with fail
  go_loopg [3, 4] n (fun q s3 s4 wr => ∃ i p b : Nat, i + q = n ∧ s4 = .int .i64 (i : Int) ∧ s3 = .int .i64 (b : Int) ∧ Hid (p = 32 * i) ∧ Hid (bl (val xs % 2 ^ p) = b) ∧ w = wr)
  case atStart => exact ⟨0, 0, 0, by omega, rfl, rfl, rfl, S0, rfl⟩
  case round =>
    clear S0
    obtain ⟨i, p, b, hq, rfl, rfl, ep, S, rfl⟩ := hrel
    have HQ := Lib.hid hq
    by_cases lt : i < n
    · clear hq
      have il : (i : Int) < n := by omega
      have il0 : (0 : Int) ≤ i := by omega
      have ix : i < xs.length := by rw [HL.out]; exact lt
      obtain ⟨ad, rfl, c1⟩ := H.out.at_ i ix
      have KB : Hid (∀ k, k < 32 → val xs / 2 ^ (32 * i + k) % 2 = xs[i] / 2 ^ k % 2) := fun k hk => bit_limb H.out.lo i k ix hk
      have bx := H.out.lo.at_ i ix
      generalize xs[i] = x at *
      have S1 : Hid (bl (val xs % 2 ^ (32 * i + 0)) = b) := by unfold Hid; rw [Nat.add_zero, ← ep.out]; exact S.out
      clear S ep
      go_wp2_with fail
      go_loopg [3, 5] 32 (fun q s3 s5 wr => ∃ k b : Nat, k + q = 32 ∧ s5 = .int .i64 (k : Int) ∧ s3 = .int .i64 (b : Int) ∧ Hid (bl (val xs % 2 ^ (32 * i + k)) = b) ∧ w = wr)
      case atStart => exact ⟨0, b, by omega, rfl, rfl, S1, rfl⟩
      case round =>
        clear S1 b p
        obtain ⟨k, b, hq2, rfl, rfl, S, rfl⟩ := hrel
        have HQ2 := Lib.hid hq2
        by_cases lt2 : k < 32
        · clear hq2
          have kl : (k : Int) < 32 := by omega
          have kl0 : (0 : Int) ≤ k := by omega
          have EK := KB.out k lt2
          by_cases bt : x / 2 ^ k % 2 = 1
          · have S2 : Hid (bl (val xs % 2 ^ (32 * i + (k + 1))) = 32 * i + k + 1) := by unfold Hid; rw [← Nat.add_assoc]; exact bl_step_one _ _ (by rw [EK, bt])
            have E1 : (((x : Int) / 2 ^ k).tmod 2 == 1) = true := by rw [bits_cast, tmod_two]; generalize x / 2 ^ k = y at *; simp; omega
            clear EK S bt
            go_wp2_with fail
            go_roundg (gk - 1)
            case measure => have := HQ2.out; omega
            case rel =>
              go_light
              exact ⟨k + 1, 32 * i + k + 1, by have := HQ2.out; omega, by go_num, congrArg (Value.int .i64) (by omega), S2, rfl⟩
          · have S2 : Hid (bl (val xs % 2 ^ (32 * i + (k + 1))) = b) := by unfold Hid; rw [← Nat.add_assoc, bl_step_zero _ _ (by rw [EK]; omega)]; exact S.out
            have E1 : (((x : Int) / 2 ^ k).tmod 2 == 1) = false := by rw [bits_cast, tmod_two]; generalize x / 2 ^ k = y at *; simp; omega
            clear EK S bt
            go_wp2_with fail
            go_roundg (gk - 1)
            case measure => have := HQ2.out; omega
            case rel =>
              go_light
              exact ⟨k + 1, b, by have := HQ2.out; omega, by go_num, rfl, S2, rfl⟩
        · obtain rfl : 32 = k := by omega
          have S3 : Hid (bl (val xs % 2 ^ (32 * (i + 1))) = b) := S.out
          clear S hq2
          go_wp2_with fail
          go_roundg (n - (i + 1))
          case measure => have := HQ.out; omega
          case rel =>
            go_light
            exact ⟨i + 1, 32 * (i + 1), b, by have := HQ.out; omega, by go_num, rfl, rfl, S3, rfl⟩
    · obtain rfl : n = i := by omega
      have il : ¬ (n : Int) < n := by omega
      have ES : Hid (bl (val xs) = b) := by
        unfold Hid
        rw [← S.out, ep.out]
        congr 1
        refine (mod_all _ ?_).symm
        have := val_lt H.out.lo
        rwa [HL.out, ← two_32] at this
      clear S ep hq
      go_wp2_with fail
      go_ret
      exact ⟨by rw [ES.out]; rfl, rfl⟩
end Go.Proofs.YtdnikdocfbbkkaaDoor
namespace Go.Proofs.YtdnikdocfbbkkaaDoor
open Go.RowKit
set_option linter.unusedVariables false
set_option linter.unusedSimpArgs false

theorem two_ln {r k : Nat} (h : ln r ≤ 64) (hk : k ≤ 1) : ln (2 * r + k) ≤ 65 := by
  refine ln_le ?_
  have a := lt_ln r
  have b := Nat.pow_le_pow_right B_pos h
  rw [show (65 : Nat) = 64 + 1 from rfl, Nat.pow_succ]
  have : B ^ 64 * 2 ≤ B ^ 64 * B := Nat.mul_le_mul_left _ (by rw [B_eq]; decide)
  omega
theorem sgn_nonneg {a b : Nat} (h : b ≤ a) : 0 ≤ sgn a b := by
  rcases Nat.lt_or_eq_of_le h with k | k
  · rw [sgn_gt k]; omega
  · rw [k, sgn_eq]; omega
/-- What is in the loop of Div. -/
structure Dvs (w : World) (a b g : Nat) (vq vr : Value) (wr : World) : Prop where
  q : ∃ A n c, vq = .slice A n c ∧ n ≤ 64 ∧ Lim wr A n c (limbs (a / 2 ^ g / b))
  r : ∃ A n c, vr = .slice A n c ∧ n ≤ 64 ∧ Lim wr A n c (limbs (a / 2 ^ g % b))
  bl : Below w.heap.size w wr
theorem quo32 (k : Nat) : (k : Int).tdiv 32 = ((k / 32 : Nat) : Int) := (Int.ofNat_tdiv k 32).symm
theorem rem32 (k : Nat) : (k : Int).tmod 32 = ((k % 32 : Nat) : Int) := (Int.ofNat_tmod k 32).symm

set_option maxHeartbeats 4000000 in
set_option maxRecDepth 100000 in
theorem refDiv_any {A A' : Option Addr} {n c n' c' a b : Nat} {w : World} (ha : Lim w A n c (limbs a)) (hb : Lim w A' n' c' (limbs b)) (la : ln a ≤ 64) (lb : ln b ≤ 64) (b0 : b ≠ 0) :
    Calls Tryd.prog 95 #[.slice A n c, .slice A' n' c'] w fun e w' => RetD (a / b) (a % b) w e w' := by
  have hl := ha.len; have hl' := hb.len
  rw [limbs_length] at hl hl'
  have KB := refBits_any ha (by omega)
  rw [val_limbs] at KB
  have KB := Lib.hid KB
  have BB : bl a ≤ 32 * n := bl_le (by rw [two_32, ← hl]; exact lt_ln a)
  have S0 : Dvs w a b (bl a) (.slice none 0 0) (.slice none 0 0) w := by
    have e : a / 2 ^ bl a = 0 := Nat.div_eq_of_lt (lt_bl a)
    refine ⟨⟨none, 0, 0, rfl, by omega, ?_⟩, ⟨none, 0, 0, rfl, by omega, ?_⟩, Below.refl _ _⟩
    · rw [e, Nat.zero_div]; exact lim_zero _ _ _ (by omega)
    · rw [e, Nat.zero_mod]; exact lim_zero _ _ _ (by omega)
  have HA := Lib.hid ha; have HB := Lib.hid hb
  have HL := Lib.hid hl
  have n64 : n ≤ 64 := by omega
  have n64' : n' ≤ 64 := by omega
  obtain ⟨G, hG⟩ : ∃ G, bl a = G := ⟨_, rfl⟩
  have HG := Lib.hid hG
  rw [hG] at KB BB S0
  clear ha hb hl hl' hG
  go_enter Tryd.func95, Tryd.ntmps95
  go_wp2_with fail
  refine KB.out.mono ?_
  rintro e w' ⟨rfl, rfl⟩
  go_wp2_with fail
  go_loopg [6, 7, 8] G (fun g s6 s7 s8 wr => g ≤ G ∧ s8 = .int .i64 ((g : Int) - 1) ∧ Dvs w a b g s6 s7 wr)
  case atStart => exact ⟨Nat.le_refl _, rfl, S0⟩
  case round =>
    clear S0
    obtain ⟨hg, rfl, S⟩ := hrel
    obtain ⟨⟨A6, n6, c6, rfl, h6, L6⟩, ⟨A7, n7, c7, rfl, h7, L7⟩, BL⟩ := S
    have BL := Lib.hid BL
    by_cases hz : gk = 0
    · subst hz
      have ek : ((0 : Nat) : Int) - 1 = -1 := by omega
      rw [ek]
      rw [Nat.pow_zero, Nat.div_one] at L6 L7
      have L6 := Lib.hid L6; have L7 := Lib.hid L7
      clear ek
      go_wp2_with fail
      go_ret2
      exact ⟨_, _, _, _, _, _, rfl, L6.out, L7.out, BL.out⟩
    · obtain ⟨k, rfl⟩ : ∃ k, gk = k + 1 := ⟨gk - 1, by omega⟩
      have ek : ((k + 1 : Nat) : Int) - 1 = (k : Int) := by omega
      rw [ek]
      have kn : k / 32 < n := by omega
      have kx : k / 32 < (limbs a).length := by rw [limbs_length, HL.out]; exact kn
      obtain ⟨ad, rfl, c1⟩ := (HA.out.next BL.out).at_ (k / 32) kx
      have EB := bit_limb (lo_limbs a) (k / 32) (k % 32) kx (Nat.mod_lt _ (by decide))
      rw [val_limbs, show 32 * (k / 32) + k % 32 = k by omega] at EB
      have bx := (lo_limbs a).at_ _ kx
      generalize (limbs a)[k / 32] = x at *
      have e1 := quo32 k
      have e2 := rem32 k
      have e3 : ((x : Int) / 2 ^ (k % 32)).tmod 2 = ((a / 2 ^ k % 2 : Nat) : Int) := by rw [bits_cast, tmod_two, EB]
      have kn' : ((k / 32 : Nat) : Int) < n := by omega
      have kn0 : (0 : Int) ≤ ((k / 32 : Nat) : Int) := by omega
      have km : (0 : Int) ≤ ((k % 32 : Nat) : Int) := by omega
      have km2 : ((k % 32 : Nat) : Int) < 32 := by omega
      have hk0 : (0 : Int) ≤ k := by omega
      have bit1 : a / 2 ^ k % 2 ≤ 1 := by omega
      have LQ : Hid (ln (a / 2 ^ k / b) ≤ 64) := Nat.le_trans (ln_mono (Nat.le_trans (Nat.div_le_self _ _) (Nat.div_le_self _ _))) la
      have LR : Hid (ln (a / 2 ^ k % b) ≤ 64) := Nat.le_trans (ln_mono (Nat.le_of_lt (Nat.mod_lt _ (Nat.pos_of_ne_zero b0)))) lb
      have D := bit_down a k
      generalize hs : a / 2 ^ (k + 1) = s at *
      generalize a / 2 ^ k % 2 = bit at *
      have DS := dv_step (b := b) (q := s / b) (r := s % b) (s := s) (k := bit) (Nat.div_add_mod s b).symm (Nat.mod_lt _ (Nat.pos_of_ne_zero b0))
      have lr : ln (s % b) ≤ 64 := by rw [← limbs_length, L7.len]; exact h7
      have l2 := two_ln lr bit1
      have K1 := Lib.hid (twice_any L7 bit1 (by omega))
      have lt_b : s % b < b := Nat.mod_lt _ (Nat.pos_of_ne_zero b0)
      generalize hr : s % b = r at *
      generalize hq : s / b = q at *
      have hk32 : k ≤ 2048 := by omega
      by_cases cs : b ≤ 2 * r + bit
      · obtain ⟨d1, d2⟩ := DS.1 cs bit1
        have hs0 := sgn_nonneg cs
        have D1 : Hid (2 * q + 1 = a / 2 ^ k / b) := by unfold Hid; rw [D, d1]
        have D2 : Hid (2 * r + bit - b = a / 2 ^ k % b) := by unfold Hid; rw [D, d2]
        have L6 := Lib.hid L6
        clear DS EB L7 D hr hq hs d1 d2
        go_wp2_with fail
        refine K1.out.mono ?_
        rintro e w1 ⟨A1, n1, c1', rfl, M1, B1⟩
        have B01 := below_step BL.out B1
        have hn1 : n1 ≤ 65 := by rw [← M1.len, limbs_length]; exact l2
        have K2 := Lib.hid (refCmp_any M1 (HB.out.next B01) (by omega) (by omega))
        have M1 := Lib.hid M1; have B1 := Lib.hid B1; have B01 := Lib.hid B01
        generalize sgn (2 * r + bit) b = sg at *
        go_wp2_with fail
        refine K2.out.mono ?_
        rintro e w2 ⟨rfl, m2, hw2⟩
        have B2 : Below w1.heap.size w1 w2 := by rw [hw2]; exact below_drewN (Below.refl _ _) m2
        have B02 := Lib.hid (below_step B01.out B2)
        have K3 := refSub_any (M1.out.next B2) (HB.out.next B02.out) (by omega) (by
          rw [← M1.out.len, ← HB.out.len, limbs_length, limbs_length]; exact ln_mono cs) (by rw [val_limbs, val_limbs]; exact cs)
        rw [val_limbs, val_limbs, D2.out] at K3
        have K3 := Lib.hid K3
        have L62 := Lib.hid ((L6.out.next B1.out).next B2)
        clear hw2 B2
        go_wp2_with fail
        refine K3.out.mono ?_
        rintro e w3 ⟨A3, n3, c3, rfl, M3, B3⟩
        have K4 := twice_any (b := 1) (L62.out.next B3) (by decide) (by omega)
        rw [D1.out] at K4
        have K4 := Lib.hid K4
        have M3 := Lib.hid M3
        have B03 := Lib.hid (below_step B02.out B3)
        clear B3
        go_wp2_with fail
        refine K4.out.mono ?_
        rintro e w4 ⟨A4, n4, c4, rfl, M4, B4⟩
        have ST : Hid (Dvs w a b k (.slice A4 n4 c4) (.slice A3 n3 c3) w4) := ⟨⟨_, _, _, rfl, by rw [← M4.len, limbs_length]; exact LQ.out, M4⟩, ⟨_, _, _, rfl, by rw [← M3.out.len, limbs_length]; exact LR.out, M3.out.next B4⟩, below_step B03.out B4⟩
        clear M4 B4
        go_wp2_with fail
        go_roundg k
        case measure => omega
        case rel =>
          go_light
          exact ⟨by omega, by go_num, ST.out⟩
      · obtain ⟨d1, d2⟩ := DS.2 cs
        have hs0 := sgn_lt (show 2 * r + bit < b by omega)
        have D1 : Hid (2 * q + 0 = a / 2 ^ k / b) := by unfold Hid; rw [D, d1]
        have D2 : Hid (2 * r + bit = a / 2 ^ k % b) := by unfold Hid; rw [D, d2]
        have L6 := Lib.hid L6
        clear DS EB L7 D hr hq hs d1 d2
        go_wp2_with fail
        refine K1.out.mono ?_
        rintro e w1 ⟨A1, n1, c1', rfl, M1, B1⟩
        have B01 := below_step BL.out B1
        have hn1 : n1 ≤ 65 := by rw [← M1.len, limbs_length]; exact l2
        have K2 := refCmp_any M1 (HB.out.next B01) (by omega) (by omega)
        rw [hs0] at K2
        have K2 := Lib.hid K2
        have M1 := Lib.hid (D2.out ▸ M1); have B1 := Lib.hid B1; have B01 := Lib.hid B01
        clear hs0
        go_wp2_with fail
        refine K2.out.mono ?_
        rintro e w2 ⟨rfl, m2, hw2⟩
        have B2 : Below w1.heap.size w1 w2 := by rw [hw2]; exact below_drewN (Below.refl _ _) m2
        have B02 := Lib.hid (below_step B01.out B2)
        have M12 := Lib.hid (M1.out.next B2)
        have K4 := twice_any (b := 0) ((L6.out.next B1.out).next B2) (by decide) (by omega)
        rw [D1.out] at K4
        have K4 := Lib.hid K4
        clear hw2 B2
        go_wp2_with fail
        refine K4.out.mono ?_
        rintro e w4 ⟨A4, n4, c4, rfl, M4, B4⟩
        have ST : Hid (Dvs w a b k (.slice A4 n4 c4) (.slice A1 n1 c1') w4) := ⟨⟨_, _, _, rfl, by rw [← M4.len, limbs_length]; exact LQ.out, M4⟩, ⟨_, _, _, rfl, by rw [← M12.out.len, limbs_length]; exact LR.out, M12.out.next B4⟩, below_step B02.out B4⟩
        clear M4 B4
        go_wp2_with fail
        go_roundg k
        case measure => omega
        case rel =>
          go_light
          exact ⟨by omega, by go_num, ST.out⟩
end Go.Proofs.YtdnikdocfbbkkaaDoor
