/- The document's answers: the walk of Sub. -/
import Derived.Test.YthhphbaimpcjfaaWalkW
namespace Go.Proofs.Ythhphbaimpcjfaa
open Go.RowKit
set_option linter.unusedVariables false
set_option linter.unusedSimpArgs false

/-- What is in the loop of Sub. -/
structure Hsb (w : World) (g : Nat) (X Y : List Nat) (zs : List Value) (i k : Nat) (wr : World) : Prop where
  ss : ∃ ss, ss.length = i ∧ Ld ss ∧ hval (X.take i) + H16 ^ i * k = hval ss + hval (Y.take i) ∧ (0 < X.length → Hrow wr g (ss ++ X.drop i) zs)
  k1 : k ≤ 1
  t : Turn w wr g
section
variable {w : World} {g : Nat} {X Y : List Nat} {zs : List Value} {i k : Nat} {wr : World}
theorem Hsb.drew (h : Hsb w g X Y zs i k wr) : Hsb w g X Y zs i k wr.drew := by
  obtain ⟨ss, a, b, c, r⟩ := h.ss
  exact ⟨⟨ss, a, b, c, fun q => (r q).drew⟩, h.k1, h.t.drew⟩
theorem Hsb.cell (h : Hsb w g X Y zs i k wr) (hx : i < X.length) : wr.cell? ⟨g, i, none⟩ = some (.int .u64 (X[i] : Int)) ∧ wr.frozen? ⟨g, i, none⟩ = false := by
  obtain ⟨ss, a, b, c, r⟩ := h.ss
  exact ⟨(r (by omega)).cell' (mid_at X ss i hx a), (r (by omega)).melt _⟩
theorem Hsb.step (h : Hsb w g X Y zs i k wr) (hx : i < X.length) (hy : i < Y.length) (LX : Ld X) (LY : Ld Y) :
    Hsb w g X Y zs (i + 1) (1 - (65536 + X[i] - Y[i] - k) / 65536) (wr.setCell ⟨g, i, none⟩ (hv ((65536 + X[i] - Y[i] - k) % 65536))) := by
  obtain ⟨ss, hl, ld, hval_, r⟩ := h.ss
  have hk := h.k1
  have b1 := LX.at_ i hx
  have b2 := LY.at_ i hy
  refine ⟨⟨ss ++ [(65536 + X[i] - Y[i] - k) % 65536], by simp [hl], ld.append (.cons (Nat.mod_lt _ (by decide)) .nil), ?_, fun q => ?_⟩, by omega, h.t.setCell _ _⟩
  · rw [hval_snoc, hl, hval_take_succ X i hx, hval_take_succ Y i hy, Nat.pow_succ]
    have := hsb_step hval_ (hsb_limb X[i] Y[i] k b1 b2 hk)
    rw [H16_eq] at *
    omega
  · have := (r q).set_ i (by rw [mid_len X ss i (by omega) hl]; exact hx) ((65536 + X[i] - Y[i] - k) % 65536)
    rwa [mid_set X ss i _ hx hl] at this
theorem Hsb.done {T : Nat} (h : Hsb w g X Y zs T k wr) (hx : X.length = T) (hy : Y.length = T) (le : hval Y ≤ hval X) :
    ∃ ss, ss.length = T ∧ Ld ss ∧ hval ss = hval X - hval Y ∧ (0 < T → Hrow wr g ss zs) := by
  obtain ⟨ss, hl, ld, hv_, r⟩ := h.ss
  rw [List.take_of_length_le (by omega), List.take_of_length_le (by omega)] at hv_
  have e : ss ++ X.drop T = ss := by rw [List.drop_of_length_le (by omega), List.append_nil]
  rw [e, hx] at r
  refine ⟨ss, hl, ld, ?_, r⟩
  have l := hval_lt ld
  rw [hl] at l
  have hk := h.k1
  have : k = 0 ∨ k = 1 := by omega
  rcases this with rfl | rfl
  · omega
  · rw [Nat.mul_one] at hv_; omega
end
theorem u64_dif (x y k : Nat) (hx : x < 65536) (hy : y < 65536) (hk : k ≤ 1) : Value.int IntKind.u64 ((65536 + (x : Int) - (y : Int) - (k : Int)) % 65536) = hv ((65536 + x - y - k) % 65536) := congrArg (Value.int .u64) (by omega)
theorem sub_over (x y k : Nat) (hx : x < 65536) (hy : y < 65536) (hk : k ≤ 1) : 1 - (65536 + (x : Int) - (y : Int) - (k : Int)) / 65536 = ((1 - (65536 + x - y - k) / 65536 : Nat) : Int) := by omega

set_option maxHeartbeats 4000000 in
set_option maxRecDepth 100000 in
theorem refSub_any {A A' : Option Addr} {n c n' c' : Nat} {xs ys : List Nat} {w : World} (ha : Lim w A n c xs) (hb : Lim w A' n' c' ys) (hn : n ≤ 100000) (hn' : n' ≤ n) (hle : val ys ≤ val xs) :
    Calls Try.prog 34 #[.slice A n c, .slice A' n' c'] w fun e w' => RetN (val xs - val ys) w e w' := by
  obtain ⟨T, hT⟩ : ∃ T, 2 * n = T := ⟨_, rfl⟩
  have eT : 2 * (n : Int) = (T : Int) := by omega
  have ET := Lib.hid eT
  clear eT
  have KA := Lib.hid (half_any (n := T) ha (by omega))
  have KB := Lib.hid (fun (W : World) (hW : Below w.heap.size w W) => half_any (n := T) (hb.next hW) (by omega))
  have VA : Hid (hval (halves xs T) = val xs) := by unfold Hid; rw [← hT]; exact halves_whole (by rw [ha.len]; omega)
  have VB : Hid (hval (halves ys T) = val ys) := by unfold Hid; rw [← hT]; exact halves_whole (by rw [hb.len]; omega)
  have LT := Lib.hid hle
  have LX := Lib.hid (ld_halves ha.lo T); have LY := Lib.hid (ld_halves hb.lo T)
  have NX := Lib.hid (halves_len xs T); have NY := Lib.hid (halves_len ys T)
  have HT := Lib.hid hT
  have hT2 : T ≤ 1000000 := by omega
  clear ha hb hT hle
  go_enter Try.func34, Try.ntmps34
  go_wp2_with fail
  rw [ET.out]
  refine KA.out.mono ?_
  rintro e w1 ⟨v1, rfl, O1, B1⟩
  obtain ⟨A1, c1, g1, z1, rfl, gb1, _, R1⟩ := own_any O1
  clear O1
  go_wp2_with fail
  refine (KB.out w1 B1).mono ?_
  rintro e w2 ⟨v2, rfl, O2, B2⟩
  obtain ⟨A2, c2, g2, z2, rfl, gb2, _, R2⟩ := own_any O2
  have B12 := below_step B1 B2
  have R1 := Lib.hid R1; have R2 := Lib.hid R2
  have BB2 := Lib.hid B2; have BB12 := Lib.hid B12
  have GB1 := Lib.hid gb1; have GB2 := Lib.hid gb2
  generalize halves xs T = X at *
  generalize halves ys T = Y at *
  have S0 : Hsb w2 g1 X Y z1 0 0 w2 := ⟨⟨[], rfl, .nil, by simp [hval_nil], fun q => by
    have := (R1.out (by have := NX.out; omega)).2.2.next B2
    simpa using this⟩, by omega, Turn.refl _ _⟩
  clear O2 B1 B2 B12 gb1 gb2 KA KB
  go_wp2_with fail
  go_loopg [8, 9] T (fun q s8 s9 wr => ∃ i k : Nat, i + q = T ∧ s9 = .int .i64 (i : Int) ∧ s8 = .int .u64 (k : Int) ∧ Hsb w2 g1 X Y z1 i k wr)
  case atStart => exact ⟨0, 0, by omega, rfl, rfl, S0⟩
  case round =>
    clear S0
    obtain ⟨i, k, hq, rfl, rfl, S⟩ := hrel
    have HQ := Lib.hid hq
    by_cases lt : i < T
    · have il : (i : Int) < T := by omega
      have il0 : (0 : Int) ≤ i := by omega
      obtain ⟨rfl, l1, r1⟩ := R1.out (by omega)
      obtain ⟨rfl, l2, r2⟩ := R2.out (by omega)
      have ix : i < X.length := by rw [NX.out]; exact lt
      have iy : i < Y.length := by rw [NY.out]; exact lt
      obtain ⟨c3, f3⟩ := S.cell ix
      have c4 : wr.cell? ⟨g2, i, none⟩ = some (.int .u64 (Y[i] : Int)) := (r2.turn S.t (by have := GB2.out; omega)).cell i iy
      have bx := LX.out.at_ i ix
      have bY := LY.out.at_ i iy
      have hk := S.k1
      have ST := Lib.hid (S.drew.step ix iy LX.out LY.out)
      generalize X[i] = x at *
      generalize Y[i] = y at *
      clear S hq r1 r2 l1 l2
      go_wp2_with fail
      go_region
      all_goals go_wp2_with fail
      all_goals go_roundg (gk - 1)
      case measure => have := HQ.out; omega
      case rel =>
        go_light
        refine ⟨i + 1, _, by have := HQ.out; omega, by go_num, congrArg (Value.int .u64) (sub_over x y k bx bY hk), ?_⟩
        rw [u64_dif x y k bx bY hk]
        exact ST.out
    · obtain rfl : T = i := by omega
      have il : ¬ (T : Int) < T := by omega
      obtain ⟨ss, sl, sd, sv, R⟩ := S.done NX.out NY.out (by rw [VA.out, VB.out]; exact LT.out)
      have T12 := BB12.out.trans (S.t.below GB1.out)
      have HS := hl_of (fun q => (R1.out q).1) R sl
      have KW := Lib.hid (whole_at (c := c1) HT.out HS sd (by omega))
      rw [sv, VA.out, VB.out] at KW
      clear S hq lt ss sl sd sv R HS
      go_wp2_with fail
      refine KW.out.mono ?_
      rintro e w3 ⟨A3, n3, c3, rfl, L3, B3⟩
      go_wp2_with fail
      go_ret
      exact ⟨_, _, _, rfl, L3, below_step T12 B3⟩
end Go.Proofs.Ythhphbaimpcjfaa
