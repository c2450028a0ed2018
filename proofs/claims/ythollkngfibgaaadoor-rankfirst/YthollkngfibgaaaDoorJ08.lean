/- The document's answers: the walk of Sub. The document's answers: the walks of Right, Small, Cmp, Bits; told. The document's answers: the walk of Bits. The document's answers: the walk of Div. -/
import Derived.Test.YthollkngfibgaaaDoorJ07
import Derived.Test.YthollkngfibgaaaDoorJ05
namespace Go.Proofs.YthollkngfibgaaaDoor
open Go.RowKit
set_option linter.unusedVariables false
set_option linter.unusedSimpArgs false

/-- What is in the loop of Sub. -/
structure Hsb (w : World) (g : Nat) (X Y : List Nat) (zs : List Value) (i k : Nat) (wr : World) : Prop where
  ss : ∃ ss, ss.length = i ∧ Ld ss ∧ hval (X.take i) + H16 ^ i * k = hval ss + hval (Y.take i) ∧ (0 < X.length → Hrow wr g (ss ++ X.drop i) zs)
  k1 : k ≤ 1
  t : Turn w wr g
section
variable {w : World} {g : Nat} {X Y : List Nat} {zs : List Value} {i k : Nat} {wr : World}
theorem Hsb.drew (h : Hsb w g X Y zs i k wr) : Hsb w g X Y zs i k wr.drew := by
  obtain ⟨ss, a, b, c, r⟩ := h.ss
  exact ⟨⟨ss, a, b, c, fun q => (r q).drew⟩, h.k1, h.t.drew⟩
theorem Hsb.cell (h : Hsb w g X Y zs i k wr) (hx : i < X.length) : wr.cell? ⟨g, i, none⟩ = some (.int .u64 (X[i] : Int)) ∧ wr.frozen? ⟨g, i, none⟩ = false := by
  obtain ⟨ss, a, b, c, r⟩ := h.ss
  exact ⟨(r (by omega)).cell' (mid_at X ss i hx a), (r (by omega)).melt _⟩
theorem Hsb.step (h : Hsb w g X Y zs i k wr) (hx : i < X.length) (hy : i < Y.length) (LX : Ld X) (LY : Ld Y) :
    Hsb w g X Y zs (i + 1) (1 - (65536 + X[i] - Y[i] - k) / 65536) (wr.setCell ⟨g, i, none⟩ (hv ((65536 + X[i] - Y[i] - k) % 65536))) := by
  obtain ⟨ss, hl, ld, hval_, r⟩ := h.ss
  have hk := h.k1
  have b1 := LX.at_ i hx
  have b2 := LY.at_ i hy
  refine ⟨⟨ss ++ [(65536 + X[i] - Y[i] - k) % 65536], by simp [hl], ld.append (.cons (Nat.mod_lt _ (by decide)) .nil), ?_, fun q => ?_⟩, by omega, h.t.setCell _ _⟩
  · rw [hval_snoc, hl, hval_take_succ X i hx, hval_take_succ Y i hy, Nat.pow_succ]
    have := hsb_step hval_ (hsb_limb X[i] Y[i] k b1 b2 hk)
    rw [H16_eq] at *
    omega
  · have := (r q).set_ i (by rw [mid_len X ss i (by omega) hl]; exact hx) ((65536 + X[i] - Y[i] - k) % 65536)
    rwa [mid_set X ss i _ hx hl] at this
theorem Hsb.done {T : Nat} (h : Hsb w g X Y zs T k wr) (hx : X.length = T) (hy : Y.length = T) (le : hval Y ≤ hval X) :
    ∃ ss, ss.length = T ∧ Ld ss ∧ hval ss = hval X - hval Y ∧ (0 < T → Hrow wr g ss zs) := by
  obtain ⟨ss, hl, ld, hv_, r⟩ := h.ss
  rw [List.take_of_length_le (by omega), List.take_of_length_le (by omega)] at hv_
  have e : ss ++ X.drop T = ss := by rw [List.drop_of_length_le (by omega), List.append_nil]
  rw [e, hx] at r
  refine ⟨ss, hl, ld, ?_, r⟩
  have l := hval_lt ld
  rw [hl] at l
  have hk := h.k1
  have : k = 0 ∨ k = 1 := by omega
  rcases this with rfl | rfl
  · omega
  · rw [Nat.mul_one] at hv_; omega
end
theorem u64_dif (x y k : Nat) (hx : x < 65536) (hy : y < 65536) (hk : k ≤ 1) : Value.int IntKind.u64 ((65536 + (x : Int) - (y : Int) - (k : Int)) % 65536) = hv ((65536 + x - y - k) % 65536) := congrArg (Value.int .u64) (by omega)
theorem sub_over (x y k : Nat) (hx : x < 65536) (hy : y < 65536) (hk : k ≤ 1) : 1 - (65536 + (x : Int) - (y : Int) - (k : Int)) / 65536 = ((1 - (65536 + x - y - k) / 65536 : Nat) : Int) := by omega

set_option maxHeartbeats 4000000 in
set_option maxRecDepth 100000 in
theorem refSub_any {A A' : Option Addr} {n c n' c' : Nat} {xs ys : List Nat} {w : World} (ha : Lim w A n c xs) (hb : Lim w A' n' c' ys) (hn : n ≤ 100000) (hn' : n' ≤ n) (hle : val ys ≤ val xs) :
    Calls Tryd.prog 51 #[.slice A n c, .slice A' n' c'] w fun e w' => RetN (val xs - val ys) w e w' := by
  obtain ⟨T, hT⟩ : ∃ T, 2 * n = T := ⟨_, rfl⟩
  have eT : 2 * (n : Int) = (T : Int) := by omega
  have ET := Lib.hid eT
  clear eT
  have KA := Lib.hid (half_any (n := T) ha (by omega))
  have KB := Lib.hid (fun (W : World) (hW : Below w.heap.size w W) => half_any (n := T) (hb.next hW) (by omega))
  have VA : Hid (hval (halves xs T) = val xs) := by unfold Hid; rw [← hT]; exact halves_whole (by rw [ha.len]; omega)
  have VB : Hid (hval (halves ys T) = val ys) := by unfold Hid; rw [← hT]; exact halves_whole (by rw [hb.len]; omega)
  have LT := Lib.hid hle
  have LX := Lib.hid (ld_halves ha.lo T); have LY := Lib.hid (ld_halves hb.lo T)
  have NX := Lib.hid (halves_len xs T); have NY := Lib.hid (halves_len ys T)
  have HT := Lib.hid hT
  have hT2 : T ≤ 1000000 := by omega
  clear ha hb hT hle
  go_enter Tryd.func51, Tryd.ntmps51
  go_wp2_with fail
  rw [ET.out]
  refine KA.out.mono ?_
  rintro e w1 ⟨v1, rfl, O1, B1⟩
  obtain ⟨A1, c1, g1, z1, rfl, gb1, _, R1⟩ := own_any O1
  clear O1
  go_wp2_with fail
  refine (KB.out w1 B1).mono ?_
  rintro e w2 ⟨v2, rfl, O2, B2⟩
  obtain ⟨A2, c2, g2, z2, rfl, gb2, _, R2⟩ := own_any O2
  have B12 := below_step B1 B2
  have R1 := Lib.hid R1; have R2 := Lib.hid R2
  have BB2 := Lib.hid B2; have BB12 := Lib.hid B12
  have GB1 := Lib.hid gb1; have GB2 := Lib.hid gb2
  generalize halves xs T = X at *
  generalize halves ys T = Y at *
  have S0 : Hsb w2 g1 X Y z1 0 0 w2 := ⟨⟨[], rfl, .nil, by simp [hval_nil], fun q => by
    have := (R1.out (by have := NX.out; omega)).2.2.next B2
    simpa using this⟩, by omega, Turn.refl _ _⟩
  clear O2 B1 B2 B12 gb1 gb2 KA KB
  go_wp2_with fail
  go_loopg [8, 9] T (fun q s8 s9 wr => ∃ i k : Nat, i + q = T ∧ s9 = .int .i64 (i : Int) ∧ s8 = .int .u64 (k : Int) ∧ Hsb w2 g1 X Y z1 i k wr)
  case atStart => exact ⟨0, 0, by omega, rfl, rfl, S0⟩
  case round =>
    clear S0
    obtain ⟨i, k, hq, rfl, rfl, S⟩ := hrel
    have HQ := Lib.hid hq
    by_cases lt : i < T
    · have il : (i : Int) < T := by omega
      have il0 : (0 : Int) ≤ i := by omega
      obtain ⟨rfl, l1, r1⟩ := R1.out (by omega)
      obtain ⟨rfl, l2, r2⟩ := R2.out (by omega)
      have ix : i < X.length := by rw [NX.out]; exact lt
      have iy : i < Y.length := by rw [NY.out]; exact lt
      obtain ⟨c3, f3⟩ := S.cell ix
      have c4 : wr.cell? ⟨g2, i, none⟩ = some (.int .u64 (Y[i] : Int)) := (r2.turn S.t (by have := GB2.out; omega)).cell i iy
      have bx := LX.out.at_ i ix
      have bY := LY.out.at_ i iy
      have hk := S.k1
      have ST := Lib.hid (S.drew.step ix iy LX.out LY.out)
      generalize X[i] = x at *
      generalize Y[i] = y at *
      clear S hq r1 r2 l1 l2
      go_wp2_with fail
      go_region
      all_goals go_wp2_with fail
      all_goals go_roundg (gk - 1)
      case measure => have := HQ.out; omega
      case rel =>
        go_light
        refine ⟨i + 1, _, by have := HQ.out; omega, by go_num, congrArg (Value.int .u64) (sub_over x y k bx bY hk), ?_⟩
        rw [u64_dif x y k bx bY hk]
        exact ST.out
    · obtain rfl : T = i := by omega
      have il : ¬ (T : Int) < T := by omega
      obtain ⟨ss, sl, sd, sv, R⟩ := S.done NX.out NY.out (by rw [VA.out, VB.out]; exact LT.out)
      have T12 := BB12.out.trans (S.t.below GB1.out)
      have HS := hl_of (fun q => (R1.out q).1) R sl
      have KW := Lib.hid (whole_at (c := c1) HT.out HS sd (by omega))
      rw [sv, VA.out, VB.out] at KW
      clear S hq lt ss sl sd sv R HS
      go_wp2_with fail
      refine KW.out.mono ?_
      rintro e w3 ⟨A3, n3, c3, rfl, L3, B3⟩
      go_wp2_with fail
      go_ret
      exact ⟨_, _, _, rfl, L3, below_step T12 B3⟩
end Go.Proofs.YthollkngfibgaaaDoor
namespace Go.Proofs.YthollkngfibgaaaDoor
open Go.RowKit
set_option linter.unusedVariables false
set_option linter.unusedSimpArgs false

open Classical in
/-- Are limbs a natural's? -/
noncomputable def ntB (xs : List Nat) : Bool := decide (Nt xs)
theorem ntB_yes {xs : List Nat} (h : Nt xs) : ntB xs = true := by unfold ntB; simpa using h
theorem ntB_no {xs : List Nat} (h : ¬ Nt xs) : ntB xs = false := by unfold ntB; simpa using h

theorem nt_lim {w : World} {A : Option Addr} {n c : Nat} {xs : List Nat} (h : Lim w A n c xs) (k : Nt xs) : Lim w A n c (limbs (val xs)) ∧ ln (val xs) ≤ 64 := by
  refine ⟨k.eq h.lo ▸ h, ?_⟩
  unfold ln
  rw [← k.eq h.lo]
  exact k.1
theorem right_any {A : Option Addr} {n c : Nat} {xs : List Nat} {w : World} (h : Lim w A n c xs) : Calls Tryd.prog 45 #[.slice A n c] w fun e w' => e = .returned (.bool (ntB xs)) ∧ w = w' := by
  by_cases k : Nt xs
  · rw [ntB_yes k]; exact right_yes (nt_lim h k).1 (nt_lim h k).2
  · rw [ntB_no k]; exact right_no h k
set_option maxHeartbeats 1000000 in
set_option maxRecDepth 100000 in
theorem refCmp_any {A A' : Option Addr} {n c n' c' a b : Nat} {w : World} (ha : Lim w A n c (limbs a)) (hb : Lim w A' n' c' (limbs b)) (la : ln a ≤ 100000) (lb : ln b ≤ 100000) :
    Calls Tryd.prog 50 #[.slice A n c, .slice A' n' c'] w fun e w' => e = .returned (.int .i64 (sgn a b)) ∧ ∃ m, w' = w.drewN m := by
  have HA := Lib.hid ha; have HB := Lib.hid hb
  have hl := ha.len; have hl' := hb.len
  rw [limbs_length] at hl hl'
  by_cases hn : n = n'
  · subst hn
    have EL : Hid (ln a = n) := hl; have EL' : Hid (ln b = n) := hl'
    have n64 : n ≤ 100000 := by omega
    have h0 : ((n : Int) != n) = false := by simp
    clear ha hb hl hl' la lb
    go_enter Tryd.func50, Tryd.ntmps50
    go_wp2_with fail
    go_loopg [5] n (fun g s5 wr => ∃ m, g ≤ n ∧ s5 = .int .i64 ((g : Int) - 1) ∧ Hid ((limbs a).drop g = (limbs b).drop g) ∧ wr = w.drewN m)
    case atStart => exact ⟨0, Nat.le_refl _, rfl, by unfold Hid; rw [List.drop_of_length_le (by rw [limbs_length, EL.out]; exact Nat.le_refl _), List.drop_of_length_le (by rw [limbs_length, EL'.out]; exact Nat.le_refl _)], rfl⟩
    case round =>
      obtain ⟨m, hg, rfl, hv, rfl⟩ := hrel
      by_cases hz : gk = 0
      · subst hz
        have ES : Hid (sgn a b = 0) := by
          have : limbs a = limbs b := by simpa using hv.out
          unfold Hid
          rw [limbs_inj this, sgn_eq]
        have ek : ((0 : Nat) : Int) - 1 = -1 := by omega
        rw [ek]
        clear ek
        go_wp2_with fail
        go_ret
        exact ⟨by rw [ES.out]; rfl, _, rfl⟩
      · obtain ⟨k, rfl⟩ : ∃ k, gk = k + 1 := ⟨gk - 1, by omega⟩
        have ek : ((k + 1 : Nat) : Int) - 1 = (k : Int) := by omega
        rw [ek]
        obtain ⟨ad, rfl⟩ := HA.out.some_ (by omega)
        obtain ⟨ad', rfl⟩ := HB.out.some_ (by omega)
        have ka : k < (limbs a).length := by rw [limbs_length, EL.out]; omega
        have kb : k < (limbs b).length := by rw [limbs_length, EL'.out]; omega
        have c1 := HA.out.cell k ka
        have c2 := HB.out.cell k kb
        by_cases hx : (limbs a)[k] = (limbs b)[k]
        · have HV : Hid ((limbs a).drop k = (limbs b).drop k) := drop_step ka kb hx hv.out
          rw [← hx] at c2
          generalize (limbs a)[k] = x at *
          have h2 : ((x : Int) != x) = false := by simp
          clear hx ek
          go_wp2_with fail
          go_quiet (fail)
          go_wp2_with fail
          go_roundg k
          case measure => omega
          case rel => exact ⟨_, by omega, rfl, HV, rfl⟩
        · have ES := Lib.hid (sgn_top ka kb hv.out hx)
          generalize (limbs a)[k] = x at *
          generalize (limbs b)[k] = y at *
          have h2 : ((x : Int) != y) = true := by simp; omega
          by_cases xy : x < y
          · have xy' : (x : Int) < y := by omega
            rw [sgn_lt xy] at ES
            clear hx ek
            go_wp2_with fail
            go_quiet (fail)
            go_wp2_with fail
            go_quiet (fail)
            go_wp2_with fail
            go_ret
            exact ⟨by rw [← ES.out]; rfl, drew3 _ _ _ _⟩
          · have xy' : ¬ (x : Int) < y := by omega
            rw [sgn_gt (by omega)] at ES
            clear hx ek
            go_wp2_with fail
            go_quiet (fail)
            go_wp2_with fail
            go_quiet (fail)
            go_wp2_with fail
            go_ret
            exact ⟨by rw [← ES.out]; rfl, drew3 _ _ _ _⟩
  · have ES := Lib.hid (sgn_ln (a := a) (b := b) (by omega))
    rw [hl, hl'] at ES
    have h0 : ((n : Int) != n') = true := by simp; omega
    by_cases xy : n < n'
    · have xy' : (n : Int) < n' := by omega
      rw [sgn_lt xy] at ES
      clear ha hb hl hl' la lb
      go_enter Tryd.func50, Tryd.ntmps50
      go_wp2_with fail
      go_ret
      exact ⟨by rw [← ES.out]; rfl, 0, rfl⟩
    · have xy' : ¬ (n : Int) < n' := by omega
      rw [sgn_gt (by omega)] at ES
      clear ha hb hl hl' la lb
      go_enter Tryd.func50, Tryd.ntmps50
      go_wp2_with fail
      go_ret
      exact ⟨by rw [← ES.out]; rfl, 0, rfl⟩
end Go.Proofs.YthollkngfibgaaaDoor
namespace Go.Proofs.YthollkngfibgaaaDoor
open Go.RowKit
set_option linter.unusedVariables false
set_option linter.unusedSimpArgs false

theorem bl_step_one (a p : Nat) (h : a / 2 ^ p % 2 = 1) : bl (a % 2 ^ (p + 1)) = p + 1 := by
  have e := Nat.mod_pow_succ (b := 2) (k := p) (x := a)
  rw [h, Nat.mul_one] at e
  refine bl_of ?_ (Nat.mod_lt _ (Nat.two_pow_pos _))
  rw [e]; omega
theorem bl_step_zero (a p : Nat) (h : a / 2 ^ p % 2 = 0) : bl (a % 2 ^ (p + 1)) = bl (a % 2 ^ p) := by
  have e := Nat.mod_pow_succ (b := 2) (k := p) (x := a)
  rw [h, Nat.mul_zero] at e
  rw [e, Nat.add_zero]
theorem two_32 (i : Nat) : 2 ^ (32 * i) = B ^ i := by rw [Nat.pow_mul, B_eq]
theorem bit_limb {xs : List Nat} (lo : Lo xs) (i k : Nat) (hi : i < xs.length) (hk : k < 32) : val xs / 2 ^ (32 * i + k) % 2 = xs[i] / 2 ^ k % 2 := by
  have e := val_split xs i (by omega)
  rw [val_drop xs i hi] at e
  have l := val_lt (lo.take i)
  rw [List.length_take, Nat.min_eq_left (by omega)] at l
  have p : 0 < B ^ i := Nat.pow_pos B_pos
  have e1 : val xs / 2 ^ (32 * i) = xs[i] + B * val (xs.drop (i + 1)) := by
    rw [two_32, e, Nat.add_mul_div_left _ _ p, Nat.div_eq_of_lt l, Nat.zero_add]
  rw [Nat.pow_add, ← Nat.div_div_eq_div_mul, e1, B_eq, ← pow32 (s := k) (by omega), Nat.mul_assoc, Nat.add_mul_div_left _ _ (Nat.two_pow_pos k)]
  obtain ⟨d, hd⟩ : ∃ d, 32 - k = d + 1 := ⟨32 - k - 1, by omega⟩
  rw [hd, Nat.pow_succ, Nat.mul_comm (2 ^ d) 2, Nat.mul_assoc, Nat.add_mul_mod_self_left]
theorem bits_cast (x k : Nat) : (x : Int) / 2 ^ k = ((x / 2 ^ k : Nat) : Int) := by
  have e : (2 : Int) ^ k = ((2 ^ k : Nat) : Int) := by rw [Int.natCast_pow]; rfl
  rw [e]; rfl
theorem tmod_two (y : Nat) : (y : Int).tmod 2 = ((y % 2 : Nat) : Int) := (Int.ofNat_tmod y 2).symm
theorem mod_all (a : Nat) {n : Nat} (h : a < 2 ^ n) : a % 2 ^ n = a := Nat.mod_eq_of_lt h

set_option maxHeartbeats 2000000 in
set_option maxRecDepth 100000 in
theorem refBits_any {A : Option Addr} {n c : Nat} {xs : List Nat} {w : World} (h : Lim w A n c xs) (hn : n ≤ 100000) : Calls Tryd.prog 53 #[.slice A n c] w fun e w' => e = .returned (.int .i64 (bl (val xs))) ∧ w = w' := by
  have H := Lib.hid h
  have HL := Lib.hid h.len
  have S0 : Hid (bl (val xs % 2 ^ 0) = 0) := by unfold Hid; rw [Nat.pow_zero, Nat.mod_one, bl_zero]
  clear h
  go_enter Tryd.func53, Tryd.ntmps53
  go_wp2_with fail
  go_loopg [3, 4] n (fun q s3 s4 wr => ∃ i p b : Nat, i + q = n ∧ s4 = .int .i64 (i : Int) ∧ s3 = .int .i64 (b : Int) ∧ Hid (p = 32 * i) ∧ Hid (bl (val xs % 2 ^ p) = b) ∧ w = wr)
  case atStart => exact ⟨0, 0, 0, by omega, rfl, rfl, rfl, S0, rfl⟩
  case round =>
    clear S0
    obtain ⟨i, p, b, hq, rfl, rfl, ep, S, rfl⟩ := hrel
    have HQ := Lib.hid hq
    by_cases lt : i < n
    · clear hq
      have il : (i : Int) < n := by omega
      have il0 : (0 : Int) ≤ i := by omega
      have ix : i < xs.length := by rw [HL.out]; exact lt
      obtain ⟨ad, rfl, c1⟩ := H.out.at_ i ix
      have KB : Hid (∀ k, k < 32 → val xs / 2 ^ (32 * i + k) % 2 = xs[i] / 2 ^ k % 2) := fun k hk => bit_limb H.out.lo i k ix hk
      have bx := H.out.lo.at_ i ix
      generalize xs[i] = x at *
      have S1 : Hid (bl (val xs % 2 ^ (32 * i + 0)) = b) := by unfold Hid; rw [Nat.add_zero, ← ep.out]; exact S.out
      clear S ep
      go_wp2_with fail
      go_loopg [3, 5] 32 (fun q s3 s5 wr => ∃ k b : Nat, k + q = 32 ∧ s5 = .int .i64 (k : Int) ∧ s3 = .int .i64 (b : Int) ∧ Hid (bl (val xs % 2 ^ (32 * i + k)) = b) ∧ w = wr)
      case atStart => exact ⟨0, b, by omega, rfl, rfl, S1, rfl⟩
      case round =>
        clear S1 b p
        obtain ⟨k, b, hq2, rfl, rfl, S, rfl⟩ := hrel
        have HQ2 := Lib.hid hq2
        by_cases lt2 : k < 32
        · clear hq2
          have kl : (k : Int) < 32 := by omega
          have kl0 : (0 : Int) ≤ k := by omega
          have EK := KB.out k lt2
          by_cases bt : x / 2 ^ k % 2 = 1
          · have S2 : Hid (bl (val xs % 2 ^ (32 * i + (k + 1))) = 32 * i + k + 1) := by unfold Hid; rw [← Nat.add_assoc]; exact bl_step_one _ _ (by rw [EK, bt])
            have E1 : (((x : Int) / 2 ^ k).tmod 2 == 1) = true := by rw [bits_cast, tmod_two]; generalize x / 2 ^ k = y at *; simp; omega
            clear EK S bt
            go_wp2_with fail
            go_roundg (gk - 1)
            case measure => have := HQ2.out; omega
            case rel =>
              go_light
              exact ⟨k + 1, 32 * i + k + 1, by have := HQ2.out; omega, by go_num, congrArg (Value.int .i64) (by omega), S2, rfl⟩
          · have S2 : Hid (bl (val xs % 2 ^ (32 * i + (k + 1))) = b) := by unfold Hid; rw [← Nat.add_assoc, bl_step_zero _ _ (by rw [EK]; omega)]; exact S.out
            have E1 : (((x : Int) / 2 ^ k).tmod 2 == 1) = false := by rw [bits_cast, tmod_two]; generalize x / 2 ^ k = y at *; simp; omega
            clear EK S bt
            go_wp2_with fail
            go_roundg (gk - 1)
            case measure => have := HQ2.out; omega
            case rel =>
              go_light
              exact ⟨k + 1, b, by have := HQ2.out; omega, by go_num, rfl, S2, rfl⟩
        · obtain rfl : 32 = k := by omega
          have S3 : Hid (bl (val xs % 2 ^ (32 * (i + 1))) = b) := S.out
          clear S hq2
          go_wp2_with fail
          go_roundg (n - (i + 1))
          case measure => have := HQ.out; omega
          case rel =>
            go_light
            exact ⟨i + 1, 32 * (i + 1), b, by have := HQ.out; omega, by go_num, rfl, rfl, S3, rfl⟩
    · obtain rfl : n = i := by omega
      have il : ¬ (n : Int) < n := by omega
      have ES : Hid (bl (val xs) = b) := by
        unfold Hid
        rw [← S.out, ep.out]
        congr 1
        refine (mod_all _ ?_).symm
        have := val_lt H.out.lo
        rwa [HL.out, ← two_32] at this
      clear S ep hq
      go_wp2_with fail
      go_ret
      exact ⟨by rw [ES.out]; rfl, rfl⟩
end Go.Proofs.YthollkngfibgaaaDoor
namespace Go.Proofs.YthollkngfibgaaaDoor
open Go.RowKit
set_option linter.unusedVariables false
set_option linter.unusedSimpArgs false

theorem two_ln {r k : Nat} (h : ln r ≤ 64) (hk : k ≤ 1) : ln (2 * r + k) ≤ 65 := by
  refine ln_le ?_
  have a := lt_ln r
  have b := Nat.pow_le_pow_right B_pos h
  rw [show (65 : Nat) = 64 + 1 from rfl, Nat.pow_succ]
  have : B ^ 64 * 2 ≤ B ^ 64 * B := Nat.mul_le_mul_left _ (by rw [B_eq]; decide)
  omega
theorem sgn_nonneg {a b : Nat} (h : b ≤ a) : 0 ≤ sgn a b := by
  rcases Nat.lt_or_eq_of_le h with k | k
  · rw [sgn_gt k]; omega
  · rw [k, sgn_eq]; omega
/-- What is in the loop of Div. -/
structure Dvs (w : World) (a b g : Nat) (vq vr : Value) (wr : World) : Prop where
  q : ∃ A n c, vq = .slice A n c ∧ n ≤ 64 ∧ Lim wr A n c (limbs (a / 2 ^ g / b))
  r : ∃ A n c, vr = .slice A n c ∧ n ≤ 64 ∧ Lim wr A n c (limbs (a / 2 ^ g % b))
  bl : Below w.heap.size w wr
theorem quo32 (k : Nat) : (k : Int).tdiv 32 = ((k / 32 : Nat) : Int) := (Int.ofNat_tdiv k 32).symm
theorem rem32 (k : Nat) : (k : Int).tmod 32 = ((k % 32 : Nat) : Int) := (Int.ofNat_tmod k 32).symm

set_option maxHeartbeats 4000000 in
set_option maxRecDepth 100000 in
theorem refDiv_any {A A' : Option Addr} {n c n' c' a b : Nat} {w : World} (ha : Lim w A n c (limbs a)) (hb : Lim w A' n' c' (limbs b)) (la : ln a ≤ 64) (lb : ln b ≤ 64) (b0 : b ≠ 0) :
    Calls Tryd.prog 28 #[.slice A n c, .slice A' n' c'] w fun e w' => RetD (a / b) (a % b) w e w' := by
  have hl := ha.len; have hl' := hb.len
  rw [limbs_length] at hl hl'
  have KB := refBits_any ha (by omega)
  rw [val_limbs] at KB
  have KB := Lib.hid KB
  have BB : bl a ≤ 32 * n := bl_le (by rw [two_32, ← hl]; exact lt_ln a)
  have S0 : Dvs w a b (bl a) (.slice none 0 0) (.slice none 0 0) w := by
    have e : a / 2 ^ bl a = 0 := Nat.div_eq_of_lt (lt_bl a)
    refine ⟨⟨none, 0, 0, rfl, by omega, ?_⟩, ⟨none, 0, 0, rfl, by omega, ?_⟩, Below.refl _ _⟩
    · rw [e, Nat.zero_div]; exact lim_zero _ _ _ (by omega)
    · rw [e, Nat.zero_mod]; exact lim_zero _ _ _ (by omega)
  have HA := Lib.hid ha; have HB := Lib.hid hb
  have HL := Lib.hid hl
  have n64 : n ≤ 64 := by omega
  have n64' : n' ≤ 64 := by omega
  obtain ⟨G, hG⟩ : ∃ G, bl a = G := ⟨_, rfl⟩
  have HG := Lib.hid hG
  rw [hG] at KB BB S0
  clear ha hb hl hl' hG
  go_enter Tryd.func28, Tryd.ntmps28
  go_wp2_with fail
  refine KB.out.mono ?_
  rintro e w' ⟨rfl, rfl⟩
  go_wp2_with fail
  go_loopg [6, 7, 8] G (fun g s6 s7 s8 wr => g ≤ G ∧ s8 = .int .i64 ((g : Int) - 1) ∧ Dvs w a b g s6 s7 wr)
  case atStart => exact ⟨Nat.le_refl _, rfl, S0⟩
  case round =>
    clear S0
    obtain ⟨hg, rfl, S⟩ := hrel
    obtain ⟨⟨A6, n6, c6, rfl, h6, L6⟩, ⟨A7, n7, c7, rfl, h7, L7⟩, BL⟩ := S
    have BL := Lib.hid BL
    by_cases hz : gk = 0
    · subst hz
      have ek : ((0 : Nat) : Int) - 1 = -1 := by omega
      rw [ek]
      rw [Nat.pow_zero, Nat.div_one] at L6 L7
      have L6 := Lib.hid L6; have L7 := Lib.hid L7
      clear ek
      go_wp2_with fail
      go_ret2
      exact ⟨_, _, _, _, _, _, rfl, L6.out, L7.out, BL.out⟩
    · obtain ⟨k, rfl⟩ : ∃ k, gk = k + 1 := ⟨gk - 1, by omega⟩
      have ek : ((k + 1 : Nat) : Int) - 1 = (k : Int) := by omega
      rw [ek]
      have kn : k / 32 < n := by omega
      have kx : k / 32 < (limbs a).length := by rw [limbs_length, HL.out]; exact kn
      obtain ⟨ad, rfl, c1⟩ := (HA.out.next BL.out).at_ (k / 32) kx
      have EB := bit_limb (lo_limbs a) (k / 32) (k % 32) kx (Nat.mod_lt _ (by decide))
      rw [val_limbs, show 32 * (k / 32) + k % 32 = k by omega] at EB
      have bx := (lo_limbs a).at_ _ kx
      generalize (limbs a)[k / 32] = x at *
      have e1 := quo32 k
      have e2 := rem32 k
      have e3 : ((x : Int) / 2 ^ (k % 32)).tmod 2 = ((a / 2 ^ k % 2 : Nat) : Int) := by rw [bits_cast, tmod_two, EB]
      have kn' : ((k / 32 : Nat) : Int) < n := by omega
      have kn0 : (0 : Int) ≤ ((k / 32 : Nat) : Int) := by omega
      have km : (0 : Int) ≤ ((k % 32 : Nat) : Int) := by omega
      have km2 : ((k % 32 : Nat) : Int) < 32 := by omega
      have hk0 : (0 : Int) ≤ k := by omega
      have bit1 : a / 2 ^ k % 2 ≤ 1 := by omega
      have LQ : Hid (ln (a / 2 ^ k / b) ≤ 64) := Nat.le_trans (ln_mono (Nat.le_trans (Nat.div_le_self _ _) (Nat.div_le_self _ _))) la
      have LR : Hid (ln (a / 2 ^ k % b) ≤ 64) := Nat.le_trans (ln_mono (Nat.le_of_lt (Nat.mod_lt _ (Nat.pos_of_ne_zero b0)))) lb
      have D := bit_down a k
      generalize hs : a / 2 ^ (k + 1) = s at *
      generalize a / 2 ^ k % 2 = bit at *
      have DS := dv_step (b := b) (q := s / b) (r := s % b) (s := s) (k := bit) (Nat.div_add_mod s b).symm (Nat.mod_lt _ (Nat.pos_of_ne_zero b0))
      have lr : ln (s % b) ≤ 64 := by rw [← limbs_length, L7.len]; exact h7
      have l2 := two_ln lr bit1
      have K1 := Lib.hid (twice_any L7 bit1 (by omega))
      have lt_b : s % b < b := Nat.mod_lt _ (Nat.pos_of_ne_zero b0)
      generalize hr : s % b = r at *
      generalize hq : s / b = q at *
      have hk32 : k ≤ 2048 := by omega
      by_cases cs : b ≤ 2 * r + bit
      · obtain ⟨d1, d2⟩ := DS.1 cs bit1
        have hs0 := sgn_nonneg cs
        have D1 : Hid (2 * q + 1 = a / 2 ^ k / b) := by unfold Hid; rw [D, d1]
        have D2 : Hid (2 * r + bit - b = a / 2 ^ k % b) := by unfold Hid; rw [D, d2]
        have L6 := Lib.hid L6
        clear DS EB L7 D hr hq hs d1 d2
        go_wp2_with fail
        refine K1.out.mono ?_
        rintro e w1 ⟨A1, n1, c1', rfl, M1, B1⟩
        have B01 := below_step BL.out B1
        have hn1 : n1 ≤ 65 := by rw [← M1.len, limbs_length]; exact l2
        have K2 := Lib.hid (refCmp_any M1 (HB.out.next B01) (by omega) (by omega))
        have M1 := Lib.hid M1; have B1 := Lib.hid B1; have B01 := Lib.hid B01
        generalize sgn (2 * r + bit) b = sg at *
        go_wp2_with fail
        refine K2.out.mono ?_
        rintro e w2 ⟨rfl, m2, hw2⟩
        have B2 : Below w1.heap.size w1 w2 := by rw [hw2]; exact below_drewN (Below.refl _ _) m2
        have B02 := Lib.hid (below_step B01.out B2)
        have K3 := refSub_any (M1.out.next B2) (HB.out.next B02.out) (by omega) (by
          rw [← M1.out.len, ← HB.out.len, limbs_length, limbs_length]; exact ln_mono cs) (by rw [val_limbs, val_limbs]; exact cs)
        rw [val_limbs, val_limbs, D2.out] at K3
        have K3 := Lib.hid K3
        have L62 := Lib.hid ((L6.out.next B1.out).next B2)
        clear hw2 B2
        go_wp2_with fail
        refine K3.out.mono ?_
        rintro e w3 ⟨A3, n3, c3, rfl, M3, B3⟩
        have K4 := twice_any (b := 1) (L62.out.next B3) (by decide) (by omega)
        rw [D1.out] at K4
        have K4 := Lib.hid K4
        have M3 := Lib.hid M3
        have B03 := Lib.hid (below_step B02.out B3)
        clear B3
        go_wp2_with fail
        refine K4.out.mono ?_
        rintro e w4 ⟨A4, n4, c4, rfl, M4, B4⟩
        have ST : Hid (Dvs w a b k (.slice A4 n4 c4) (.slice A3 n3 c3) w4) := ⟨⟨_, _, _, rfl, by rw [← M4.len, limbs_length]; exact LQ.out, M4⟩, ⟨_, _, _, rfl, by rw [← M3.out.len, limbs_length]; exact LR.out, M3.out.next B4⟩, below_step B03.out B4⟩
        clear M4 B4
        go_wp2_with fail
        go_roundg k
        case measure => omega
        case rel =>
          go_light
          exact ⟨by omega, by go_num, ST.out⟩
      · obtain ⟨d1, d2⟩ := DS.2 cs
        have hs0 := sgn_lt (show 2 * r + bit < b by omega)
        have D1 : Hid (2 * q + 0 = a / 2 ^ k / b) := by unfold Hid; rw [D, d1]
        have D2 : Hid (2 * r + bit = a / 2 ^ k % b) := by unfold Hid; rw [D, d2]
        have L6 := Lib.hid L6
        clear DS EB L7 D hr hq hs d1 d2
        go_wp2_with fail
        refine K1.out.mono ?_
        rintro e w1 ⟨A1, n1, c1', rfl, M1, B1⟩
        have B01 := below_step BL.out B1
        have hn1 : n1 ≤ 65 := by rw [← M1.len, limbs_length]; exact l2
        have K2 := refCmp_any M1 (HB.out.next B01) (by omega) (by omega)
        rw [hs0] at K2
        have K2 := Lib.hid K2
        have M1 := Lib.hid (D2.out ▸ M1); have B1 := Lib.hid B1; have B01 := Lib.hid B01
        clear hs0
        go_wp2_with fail
        refine K2.out.mono ?_
        rintro e w2 ⟨rfl, m2, hw2⟩
        have B2 : Below w1.heap.size w1 w2 := by rw [hw2]; exact below_drewN (Below.refl _ _) m2
        have B02 := Lib.hid (below_step B01.out B2)
        have M12 := Lib.hid (M1.out.next B2)
        have K4 := twice_any (b := 0) ((L6.out.next B1.out).next B2) (by decide) (by omega)
        rw [D1.out] at K4
        have K4 := Lib.hid K4
        clear hw2 B2
        go_wp2_with fail
        refine K4.out.mono ?_
        rintro e w4 ⟨A4, n4, c4, rfl, M4, B4⟩
        have ST : Hid (Dvs w a b k (.slice A4 n4 c4) (.slice A1 n1 c1') w4) := ⟨⟨_, _, _, rfl, by rw [← M4.len, limbs_length]; exact LQ.out, M4⟩, ⟨_, _, _, rfl, by rw [← M12.out.len, limbs_length]; exact LR.out, M12.out.next B4⟩, below_step B02.out B4⟩
        clear M4 B4
        go_wp2_with fail
        go_roundg k
        case measure => omega
        case rel =>
          go_light
          exact ⟨by omega, by go_num, ST.out⟩
end Go.Proofs.YthollkngfibgaaaDoor
