/- The document's answers: the walks of Add, Sub. -/
import Derived.Test.YthhphbaimpcjfaaWalkV
namespace Go.Proofs.Ythhphbaimpcjfaa
open Go.RowKit
set_option linter.unusedVariables false
set_option linter.unusedSimpArgs false

theorem whole_at {A : Option Addr} {T n c : Nat} {hs : List Nat} {w : World} (hT : 2 * n = T) (h : Hl w A T hs) (ld : Ld hs) (hn : n ≤ 1000000) : Calls Try.prog 24 #[.slice A T c] w fun e w' => RetN (hval hs) w e w' := by
  subst hT
  exact whole_any h ld hn
theorem own_any {w : World} {base n : Nat} {v : Value} {hs : List Nat} (h : w.ownsRow base 23 1 v n (hs.map hv)) : ∃ A c g zs, v = .slice A n c ∧ base ≤ g ∧ hs.length = n ∧ (0 < n → A = some ⟨g, 0, none⟩ ∧ g < w.heap.size ∧ Hrow w g hs zs) := by
  by_cases hn : 0 < n
  · obtain ⟨g, c, zs, rfl, hb, _, _, hl, hr⟩ := own_hrow h hn
    exact ⟨_, c, g, zs, rfl, hb, hl, fun _ => ⟨rfl, hr.lt, hr⟩⟩
  · have hl : hs.length = n := by have := h.1; simpa using this
    rcases h.2 with ⟨rfl, rfl⟩ | ⟨g, cap, cur, rfl, h0, hb, h1, h2, h3, h4⟩
    · exact ⟨none, 0, base, [], rfl, Nat.le_refl _, hl, fun k => absurd k (by omega)⟩
    · exact ⟨_, cap, base, [], rfl, Nat.le_refl _, hl, fun k => absurd k hn⟩
theorem hl_of {w : World} {A : Option Addr} {g T : Nat} {ss : List Nat} {zs : List Value} (h : 0 < T → A = some ⟨g, 0, none⟩) (r : 0 < T → Hrow w g ss zs) (sl : ss.length = T) : Hl w A T ss := by
  by_cases hT : 0 < T
  · rw [h hT]; exact (r hT).hl sl
  · exact ⟨sl, fun j hj => by omega⟩
theorem mid_set (X ss : List Nat) (i v : Nat) (hi : i < X.length) (hs : ss.length = i) : (ss ++ X.drop i).set i v = ss ++ [v] ++ X.drop (i + 1) := by
  have e := set_part X ss v 0 i (by omega) hs
  simpa only [List.take_zero, List.nil_append, Nat.zero_add] using e
theorem mid_at (X ss : List Nat) (i : Nat) (hi : i < X.length) (hs : ss.length = i) : (ss ++ X.drop i)[i]? = some X[i] := by
  have e := part_at X ss 0 i (by omega) hs
  simpa only [List.take_zero, List.nil_append, Nat.zero_add] using e
theorem mid_len (X ss : List Nat) (i : Nat) (hi : i ≤ X.length) (hs : ss.length = i) : (ss ++ X.drop i).length = X.length := by simp; omega

/-- What is in the loop of Add. -/
structure Had (w : World) (g : Nat) (X Y : List Nat) (zs : List Value) (i k : Nat) (wr : World) : Prop where
  ss : ∃ ss, ss.length = i ∧ Ld ss ∧ hval ss + H16 ^ i * k = hval (X.take i) + hval (Y.take i) ∧ (0 < X.length → Hrow wr g (ss ++ X.drop i) zs)
  k1 : k ≤ 1
  t : Turn w wr g
section
variable {w : World} {g : Nat} {X Y : List Nat} {zs : List Value} {i k : Nat} {wr : World}
theorem Had.drew (h : Had w g X Y zs i k wr) : Had w g X Y zs i k wr.drew := by
  obtain ⟨ss, a, b, c, r⟩ := h.ss
  exact ⟨⟨ss, a, b, c, fun q => (r q).drew⟩, h.k1, h.t.drew⟩
theorem Had.cell (h : Had w g X Y zs i k wr) (hx : i < X.length) : wr.cell? ⟨g, i, none⟩ = some (.int .u64 (X[i] : Int)) ∧ wr.frozen? ⟨g, i, none⟩ = false := by
  obtain ⟨ss, a, b, c, r⟩ := h.ss
  exact ⟨(r (by omega)).cell' (mid_at X ss i hx a), (r (by omega)).melt _⟩
theorem Had.step (h : Had w g X Y zs i k wr) (hx : i < X.length) (hy : i < Y.length) (LX : Ld X) (LY : Ld Y) :
    Had w g X Y zs (i + 1) ((X[i] + Y[i] + k) / 65536) (wr.setCell ⟨g, i, none⟩ (hv ((X[i] + Y[i] + k) % 65536))) := by
  obtain ⟨ss, hl, ld, hval_, r⟩ := h.ss
  have hk := h.k1
  have b1 := LX.at_ i hx
  have b2 := LY.at_ i hy
  refine ⟨⟨ss ++ [(X[i] + Y[i] + k) % 65536], by simp [hl], ld.append (.cons (Nat.mod_lt _ (by decide)) .nil), ?_, fun q => ?_⟩, by omega, h.t.setCell _ _⟩
  · rw [hval_snoc, hl, hval_take_succ X i hx, hval_take_succ Y i hy, Nat.pow_succ]
    have := had_step (c := X[i] + Y[i] + k) hval_ (x := X[i]) (y := Y[i]) rfl
    rw [← H16_eq] at this
    rw [H16_eq] at *
    omega
  · have := (r q).set_ i (by rw [mid_len X ss i (by omega) hl]; exact hx) ((X[i] + Y[i] + k) % 65536)
    rwa [mid_set X ss i _ hx hl] at this
theorem Had.done {T : Nat} (h : Had w g X Y zs T k wr) (hx : X.length = T) (hy : Y.length = T) (lt : hval X + hval Y < H16 ^ T) :
    ∃ ss, ss.length = T ∧ Ld ss ∧ hval ss = hval X + hval Y ∧ (0 < T → Hrow wr g ss zs) := by
  obtain ⟨ss, hl, ld, hv_, r⟩ := h.ss
  rw [List.take_of_length_le (by omega), List.take_of_length_le (by omega)] at hv_
  have e : ss ++ X.drop T = ss := by rw [List.drop_of_length_le (by omega), List.append_nil]
  rw [e, hx] at r
  refine ⟨ss, hl, ld, ?_, r⟩
  have hk := h.k1
  have : k = 0 ∨ k = 1 := by omega
  rcases this with rfl | rfl
  · omega
  · rw [Nat.mul_one] at hv_; omega
end
theorem sum_lt {xs ys : List Nat} {M : Nat} (lx : Lo xs) (ly : Lo ys) (hx : xs.length ≤ M) (hy : ys.length ≤ M) : val xs + val ys < H16 ^ (2 * (M + 1)) := by
  have a := val_lt lx
  have b := val_lt ly
  have a' := Nat.pow_le_pow_right B_pos hx
  have b' := Nat.pow_le_pow_right B_pos hy
  rw [H16_pow, Nat.pow_succ]
  have : B ^ M * 2 ≤ B ^ M * B := Nat.mul_le_mul_left _ (by rw [B_eq]; decide)
  omega
theorem u64_sum (x y k : Nat) : Value.int IntKind.u64 (((x : Int) + (y : Int) + (k : Int)) % 65536) = hv ((x + y + k) % 65536) := congrArg (Value.int .u64) (by omega)
theorem u64_over (x y k : Nat) : Value.int IntKind.u64 (((x : Int) + (y : Int) + (k : Int)) / 65536) = hv ((x + y + k) / 65536) := congrArg (Value.int .u64) (by omega)

set_option maxHeartbeats 4000000 in
set_option maxRecDepth 100000 in
theorem refAdd_any {A A' : Option Addr} {n c n' c' : Nat} {xs ys : List Nat} {w : World} (ha : Lim w A n c xs) (hb : Lim w A' n' c' ys) (hn : n ≤ 100000) (hn' : n' ≤ 100000) :
    Calls Try.prog 17 #[.slice A n c, .slice A' n' c'] w fun e w' => RetN (val xs + val ys) w e w' := by
  obtain ⟨M, hM, hM1, hM2, hM3⟩ : ∃ M : Nat, max (n : Int) (n' : Int) = (M : Int) ∧ n ≤ M ∧ n' ≤ M ∧ M ≤ 100000 := ⟨max n n', by omega, by omega, by omega, by omega⟩
  obtain ⟨T, hT⟩ : ∃ T, 2 * (M + 1) = T := ⟨_, rfl⟩
  have eT : 2 * max (n : Int) (n' : Int) + 2 = (T : Int) := by omega
  have ET := Lib.hid eT
  clear eT hM
  have KA := Lib.hid (half_any (n := T) ha (by omega))
  have KB := Lib.hid (fun (W : World) (hW : Below w.heap.size w W) => half_any (n := T) (hb.next hW) (by omega))
  have VA : Hid (hval (halves xs T) = val xs) := by unfold Hid; rw [← hT]; exact halves_whole (by rw [ha.len]; omega)
  have VB : Hid (hval (halves ys T) = val ys) := by unfold Hid; rw [← hT]; exact halves_whole (by rw [hb.len]; omega)
  have LT : Hid (val xs + val ys < H16 ^ T) := by unfold Hid; rw [← hT]; exact sum_lt ha.lo hb.lo (by rw [ha.len]; omega) (by rw [hb.len]; omega)
  have LX := Lib.hid (ld_halves ha.lo T); have LY := Lib.hid (ld_halves hb.lo T)
  have NX := Lib.hid (halves_len xs T); have NY := Lib.hid (halves_len ys T)
  have HT := Lib.hid hT
  have hT2 : T ≤ 1000000 := by omega
  clear ha hb hT
  go_enter Try.func17, Try.ntmps17
  go_wp2_with fail
  rw [ET.out]
  refine KA.out.mono ?_
  rintro e w1 ⟨v1, rfl, O1, B1⟩
  obtain ⟨A1, c1, g1, z1, rfl, gb1, _, R1⟩ := own_any O1
  clear O1
  go_wp2_with fail
  refine (KB.out w1 B1).mono ?_
  rintro e w2 ⟨v2, rfl, O2, B2⟩
  obtain ⟨A2, c2, g2, z2, rfl, gb2, _, R2⟩ := own_any O2
  have B12 := below_step B1 B2
  have R1 := Lib.hid R1; have R2 := Lib.hid R2
  have BB2 := Lib.hid B2; have BB12 := Lib.hid B12
  have GB1 := Lib.hid gb1; have GB2 := Lib.hid gb2
  generalize halves xs T = X at *
  generalize halves ys T = Y at *
  have S0 : Had w2 g1 X Y z1 0 0 w2 := ⟨⟨[], rfl, .nil, by simp [hval_nil], fun q => by
    have := (R1.out (by have := NX.out; omega)).2.2.next B2
    simpa using this⟩, by omega, Turn.refl _ _⟩
  clear O2 B1 B2 B12 gb1 gb2 KA KB
  go_wp2_with fail
  go_loopg [8, 9] T (fun q s8 s9 wr => ∃ i k : Nat, i + q = T ∧ s9 = .int .i64 (i : Int) ∧ s8 = .int .u64 (k : Int) ∧ Had w2 g1 X Y z1 i k wr)
  case atStart => exact ⟨0, 0, by omega, rfl, rfl, S0⟩
  case round =>
    clear S0
    obtain ⟨i, k, hq, rfl, rfl, S⟩ := hrel
    have HQ := Lib.hid hq
    by_cases lt : i < T
    · have il : (i : Int) < T := by omega
      have il0 : (0 : Int) ≤ i := by omega
      obtain ⟨rfl, l1, r1⟩ := R1.out (by omega)
      obtain ⟨rfl, l2, r2⟩ := R2.out (by omega)
      have ix : i < X.length := by rw [NX.out]; exact lt
      have iy : i < Y.length := by rw [NY.out]; exact lt
      obtain ⟨c3, f3⟩ := S.cell ix
      have c4 : wr.cell? ⟨g2, i, none⟩ = some (.int .u64 (Y[i] : Int)) := (r2.turn S.t (by have := GB2.out; omega)).cell i iy
      have bx := LX.out.at_ i ix
      have bY := LY.out.at_ i iy
      have hk := S.k1
      have ST := Lib.hid (S.drew.step ix iy LX.out LY.out)
      generalize X[i] = x at *
      generalize Y[i] = y at *
      clear S hq r1 r2 l1 l2
      go_wp2_with fail
      go_region
      all_goals go_wp2_with fail
      all_goals go_roundg (gk - 1)
      case measure => have := HQ.out; omega
      case rel =>
        go_light
        refine ⟨i + 1, _, by have := HQ.out; omega, by go_num, u64_over x y k, ?_⟩
        rw [u64_sum]
        exact ST.out
    · obtain rfl : T = i := by omega
      have il : ¬ (T : Int) < T := by omega
      obtain ⟨ss, sl, sd, sv, R⟩ := S.done NX.out NY.out (by rw [VA.out, VB.out]; exact LT.out)
      have T12 := BB12.out.trans (S.t.below GB1.out)
      have HS := hl_of (fun q => (R1.out q).1) R sl
      have KW := Lib.hid (whole_at (c := c1) HT.out HS sd (by omega))
      rw [sv, VA.out, VB.out] at KW
      clear S hq lt ss sl sd sv R HS
      go_wp2_with fail
      refine KW.out.mono ?_
      rintro e w3 ⟨A3, n3, c3, rfl, L3, B3⟩
      go_wp2_with fail
      go_ret
      exact ⟨_, _, _, rfl, L3, below_step T12 B3⟩
end Go.Proofs.Ythhphbaimpcjfaa
