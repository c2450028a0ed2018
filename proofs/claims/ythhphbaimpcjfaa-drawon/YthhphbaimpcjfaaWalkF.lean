/- The walks of difference, Sub. -/
import Derived.Test.YthhphbaimpcjfaaWalkE
namespace Go.Proofs.Ythhphbaimpcjfaa
open Go.RowKit

/-- What is in the loops of difference. -/
structure Dif (w : World) (g n : Nat) (xs ys : List Nat) (i k : Nat) (wr : World) : Prop where
  ss : ∃ ss, ss.length = i ∧ Lo ss ∧ val (xs.take i) + B ^ i * k = val ss + val (ys.take i) ∧ Row wr g (ss ++ (List.replicate n 0).drop i)
  k1 : k ≤ 1
  t : Turn w wr g
theorem Dif.drew {w : World} {g n : Nat} {xs ys : List Nat} {i k : Nat} {wr : World} (h : Dif w g n xs ys i k wr) : Dif w g n xs ys i k wr.drew := by
  obtain ⟨ss, a, b, c, r⟩ := h.ss
  exact ⟨⟨ss, a, b, c, r.drew⟩, h.k1, h.t.drew⟩
theorem dif_limb (x y k : Nat) (hx : x < 4294967296) (hy : y < 4294967296) (hk : k ≤ 1) : x + 4294967296 * bor x (y + k) = (x + 8589934592 - y - k) % 4294967296 + y + k := by
  by_cases h : x < y + k
  · rw [bor_yes h]; omega
  · rw [bor_no h]; omega
theorem dif_step {P s t v x y k b d : Nat} (h : s + P * k = v + t) (e : x + 4294967296 * b = d + y + k) : s + P * x + P * 4294967296 * b = v + P * d + (t + P * y) := by
  have : P * x + P * 4294967296 * b = P * d + P * y + P * k := by
    rw [Nat.mul_assoc, ← Nat.mul_add, e, Nat.mul_add, Nat.mul_add]
  omega
theorem Dif.step {w : World} {g n : Nat} {xs ys : List Nat} {i k : Nat} {wr : World} (h : Dif w g n xs ys i k wr) (x y : Nat) (hx : x < 4294967296) (hy : y < 4294967296)
    (ex : val (xs.take (i + 1)) = val (xs.take i) + B ^ i * x) (ey : val (ys.take (i + 1)) = val (ys.take i) + B ^ i * y) (hz : i < n) :
    Dif w g n xs ys (i + 1) (bor x (y + k)) (wr.setCell ⟨g, i, none⟩ (lv ((x + 8589934592 - y - k) % 4294967296))) := by
  obtain ⟨ss, hl, lo, hv, r⟩ := h.ss
  have hk := h.k1
  refine ⟨⟨ss ++ [(x + 8589934592 - y - k) % 4294967296], by simp [hl], lo.append (.cons (Nat.mod_lt _ (by decide)) .nil), ?_, ?_⟩, bor_le _ _, h.t.setCell _ _⟩
  · rw [val_snoc, hl, ex, ey, Nat.pow_succ]
    have := dif_step hv (dif_limb x y k hx hy hk)
    rw [B_eq] at *
    omega
  · have := r.set_ i ((x + 8589934592 - y - k) % 4294967296) (Nat.mod_lt _ (by decide))
    have e := set_part (List.replicate n 0) ss ((x + 8589934592 - y - k) % 4294967296) 0 i (by simp; omega) hl
    simp only [List.take_zero, List.nil_append, Nat.zero_add] at e
    rwa [e] at this
theorem Dif.cell {w : World} {g n : Nat} {xs ys : List Nat} {i k : Nat} {wr : World} (h : Dif w g n xs ys i k wr) (hi : i < n) : wr.cell? ⟨g, i, none⟩ = some (lv 0) ∧ wr.frozen? ⟨g, i, none⟩ = false := by
  obtain ⟨ss, hl, lo, hv, r⟩ := h.ss
  refine ⟨?_, r.melt _⟩
  have := part_at (List.replicate n 0) ss 0 i (by simp; omega) hl
  simp only [List.take_zero, List.nil_append, Nat.zero_add, List.getElem_replicate] at this
  exact r.cell' this
theorem Dif.done {w : World} {g n : Nat} {xs ys : List Nat} {k : Nat} {wr : World} (h : Dif w g n xs ys n k wr) (hx : xs.length = n) (hy : ys.length ≤ n) (hle : val ys ≤ val xs) :
    ∃ ss, ss.length = n ∧ val ss = val xs - val ys ∧ Row wr g ss := by
  obtain ⟨ss, hl, lo, hv, r⟩ := h.ss
  rw [List.take_of_length_le (by omega), List.take_of_length_le (by omega)] at hv
  have e : ss ++ (List.replicate n 0).drop n = ss := by simp
  rw [e] at r
  refine ⟨ss, hl, ?_, r⟩
  have l := val_lt lo
  rw [hl] at l
  have hk := h.k1
  have : k = 0 ∨ k = 1 := by omega
  rcases this with rfl | rfl
  · omega
  · rw [Nat.mul_one] at hv; omega
theorem u32_sub (x y k : Nat) (hx : x < 4294967296) (hy : y < 4294967296) (hk : k ≤ 1) : ((((x + 8589934592 - y - k) % 4294967296 : Nat)) : Int) = ((x : Int) + 8589934592 - y - k) % 4294967296 := by omega

set_option maxHeartbeats 4000000 in
set_option maxRecDepth 100000 in
theorem difference_any {A A' : Option Addr} {n c n' c' a b : Nat} {w : World} (ha : Lim w A n c (limbs a)) (hb : Lim w A' n' c' (limbs b)) (la : ln a ≤ 64) (hle : b ≤ a) :
    Calls Try.prog 40 #[.slice A n c, .slice A' n' c'] w fun e w' => RetN (a - b) w e w' := by
  have hl := ha.len; have hl' := hb.len
  rw [limbs_length] at hl hl'
  have hnn : n' ≤ n := by rw [← hl, ← hl']; exact ln_mono hle
  have hmk := make_u32 n (by omega)
  have S0 : Dif (w.alloc (zrow n)) w.heap.size n (limbs a) (limbs b) 0 0 (w.alloc (zrow n)) := ⟨⟨[], rfl, .nil, by simp [val_nil], by simpa using Row.zeros w n⟩, by omega, Turn.refl _ _⟩
  have LA := Lib.hid (ha.alloc (zrow n)); have LB := Lib.hid (hb.alloc (zrow n))
  have NA := Lib.hid ha.new_ne; have NB := Lib.hid hb.new_ne
  have hBl : Below w.heap.size w (w.alloc (zrow n)) := (Below.refl _ _).alloc (Nat.le_refl _) _
  have HL := Lib.hid ha.len; have HL' := Lib.hid hb.len
  have HE := Lib.hid hle
  have hn64 : n ≤ 64 := by omega
  clear ha hb la hl hl' hle
  go_enter Try.func40, Try.ntmps40
  go_wp2_with fail
  generalize w.alloc (zrow n) = wa at *
  generalize hg : w.heap.size = g at *
  have HG := Lib.hid hg
  clear hg
  go_loopg [6, 14] n' (fun q s6 s14 wr => ∃ i k, i + q = n' ∧ s14 = .int .i64 (i : Int) ∧ s6 = lv k ∧ Dif wa g n (limbs a) (limbs b) i k wr)
  case atStart => exact ⟨0, 0, by omega, rfl, rfl, S0⟩
  case round =>
    clear S0
    obtain ⟨i, k, hq, rfl, rfl, S⟩ := hrel
    have HQ := Lib.hid hq
    by_cases lt : i < n'
    · clear hq
      have il : (i : Int) < n' := by omega
      have il2 : (i : Int) < n := by omega
      have il0 : (0 : Int) ≤ i := by omega
      have i1 : i < (limbs a).length := by rw [HL.out]; omega
      have i2 : i < (limbs b).length := by rw [HL'.out]; omega
      obtain ⟨ad, rfl, c1⟩ := (turn_lim S.t LA.out NA.out).at_ i i1
      obtain ⟨ad', rfl, c2⟩ := (turn_lim S.t LB.out NB.out).at_ i i2
      obtain ⟨c3, f3⟩ := S.cell (by omega)
      have bx := (lo_limbs a).at_ i i1
      have bY := (lo_limbs b).at_ i i2
      have hk := S.k1
      have ST := Lib.hid (S.step _ _ bx bY (val_take_succ _ i i1) (val_take_succ _ i i2) (by omega))
      generalize (limbs a)[i] = x at *
      generalize (limbs b)[i] = y at *
      have KS := Lib.hid (sub32 x y k bx bY hk)
      generalize (x + 8589934592 - y - k) % 4294967296 = v at *
      clear S
      go_wp2_with fail
      go_region_with (first | (go_at_call 45; refine (KS.out _).mono ?_; rintro e w1 ⟨rfl, rfl⟩))
      all_goals go_wp2_with fail
      all_goals go_roundg (gk - 1)
      case measure => have := HQ.out; omega
      case measure => have := HQ.out; omega
      all_goals go_light
      all_goals exact ⟨i + 1, _, by have := HQ.out; omega, by go_num, rfl, ST.out.drew⟩
    · obtain rfl : n' = i := by omega
      clear lt hq HQ
      have il : ¬ (n' : Int) < n' := by omega
      go_wp2_with fail
      go_loopg [6, 8] (n - n') (fun q s6 s8 wr => ∃ i k, i + q = n ∧ n' ≤ i ∧ s8 = .int .i64 (i : Int) ∧ s6 = lv k ∧ Dif wa g n (limbs a) (limbs b) i k wr)
      case atStart => exact ⟨n', k, by omega, Nat.le_refl _, rfl, rfl, S⟩
      case round =>
        clear S
        obtain ⟨i, k, hq, hi, rfl, rfl, S⟩ := hrel
        have HQ := Lib.hid hq
        by_cases lt : i < n
        · clear hq il
          have il2 : (i : Int) < n := by omega
          have il0 : (0 : Int) ≤ i := by omega
          have i1 : i < (limbs a).length := by rw [HL.out]; omega
          obtain ⟨ad, rfl, c1⟩ := (turn_lim S.t LA.out NA.out).at_ i i1
          obtain ⟨c3, f3⟩ := S.cell (by omega)
          have bx := (lo_limbs a).at_ i i1
          have hk := S.k1
          have ST := Lib.hid (S.step _ 0 bx (by omega) (val_take_succ _ i i1) (by rw [List.take_of_length_le (by rw [HL'.out]; omega), List.take_of_length_le (by rw [HL'.out]; omega), Nat.mul_zero, Nat.add_zero]) (by omega))
          generalize (limbs a)[i] = x at *
          have KS := Lib.hid (sub32 x 0 k bx (by omega) hk)
          generalize (x + 8589934592 - 0 - k) % 4294967296 = v at *
          generalize bor x (0 + k) = k2 at *
          clear S
          go_wp2_with fail
          refine (KS.out _).mono ?_
          rintro e w1 ⟨rfl, rfl⟩
          go_wp2_with fail
          go_roundg (gk - 1)
          case measure => have := HQ.out; omega
          case rel =>
            go_light
            exact ⟨i + 1, _, by have := HQ.out; omega, by omega, by go_num, rfl, ST.out⟩
        · obtain rfl : n = i := by omega
          have il2 : ¬ (n : Int) < n := by omega
          obtain ⟨ss, sl, sv, R⟩ := S.done HL.out (by rw [HL'.out]; omega) (by rw [val_limbs, val_limbs]; exact HE.out)
          have T := hBl.trans (S.t.below (Nat.le_refl _))
          have TR := trim_any (R.lim (o := 0) (n := n) (c := n) (by omega) (Nat.le_refl _) (by omega))
          rw [List.drop_zero, List.take_of_length_le (by omega), sv, val_limbs, val_limbs] at TR
          have TR := Lib.hid TR
          clear R S sv sl hq HQ
          go_wp2_with fail
          refine TR.out.mono ?_
          rintro e w2 ⟨A2, n2, c2, rfl, L2, rfl⟩
          go_wp2_with fail
          go_ret
          exact ⟨_, _, _, rfl, L2, by rw [HG.out]; exact T⟩

set_option maxRecDepth 100000 in
theorem sub_any {A A' : Option Addr} {n c n' c' a b : Nat} {w : World} (ha : Lim w A n c (limbs a)) (hb : Lim w A' n' c' (limbs b)) (la : ln a ≤ 64) (lb : ln b ≤ 64) (h : b ≤ a) :
    Calls Try.prog 35 #[.slice A n c, .slice A' n' c'] w fun e w' => RetE (a - b) 0 w e w' := by
  have RA := Lib.hid (right_yes ha la); have RB := Lib.hid (right_yes hb lb)
  have KC := Lib.hid (cmp_any ha hb la lb)
  have K : Hid (∀ m, Calls Try.prog 40 #[.slice A n c, .slice A' n' c'] (w.drewN m) fun e w' => RetN (a - b) (w.drewN m) e w') := fun m => difference_any (ha.drewN m) (hb.drewN m) la h
  have hs : ¬ sgn a b < 0 := by
    rcases Nat.lt_or_eq_of_le h with k | k
    · rw [sgn_gt k]; omega
    · rw [k, sgn_eq]; omega
  clear ha hb la lb h
  generalize sgn a b = s at *
  go_enter Try.func35, Try.ntmps35
  go_wp2_with fail
  refine RA.out.mono ?_
  rintro e w' ⟨rfl, rfl⟩
  go_wp2_with fail
  refine RB.out.mono ?_
  rintro e w' ⟨rfl, rfl⟩
  go_wp2_with fail
  refine KC.out.mono ?_
  rintro e w' ⟨rfl, m, rfl⟩
  go_wp2_with fail
  refine (K.out m).mono ?_
  rintro e w1 ⟨A1, n1, c1, rfl, L1, B1⟩
  go_wp2_with fail
  go_ret2
  exact ⟨_, _, _, rfl, L1, below_step (below_drewN (Below.refl _ _) m) B1⟩
set_option maxRecDepth 100000 in
theorem sub_under {A A' : Option Addr} {n c n' c' a b : Nat} {w : World} (ha : Lim w A n c (limbs a)) (hb : Lim w A' n' c' (limbs b)) (la : ln a ≤ 64) (lb : ln b ≤ 64) (h : a < b) :
    Calls Try.prog 35 #[.slice A n c, .slice A' n' c'] w fun e w' => e = .returned (.tuple #[.slice none 0 0, .int .i64 1]) ∧ ∃ m, w' = w.drewN m := by
  have RA := Lib.hid (right_yes ha la); have RB := Lib.hid (right_yes hb lb)
  have KC := Lib.hid (cmp_any ha hb la lb)
  rw [sgn_lt h] at KC
  clear ha hb la lb h
  go_enter Try.func35, Try.ntmps35
  go_wp2_with fail
  refine RA.out.mono ?_
  rintro e w' ⟨rfl, rfl⟩
  go_wp2_with fail
  refine RB.out.mono ?_
  rintro e w' ⟨rfl, rfl⟩
  go_wp2_with fail
  refine KC.out.mono ?_
  rintro e w' ⟨rfl, m, rfl⟩
  go_wp2_with fail
  go_ret2
  exact ⟨rfl, m, rfl⟩
set_option maxRecDepth 100000 in
theorem sub_none {A A' : Option Addr} {n c n' c' : Nat} {xs ys : List Nat} {w : World} (ha : Lim w A n c xs) (hb : Lim w A' n' c' ys) (h : NoTwo xs ys) :
    Calls Try.prog 35 #[.slice A n c, .slice A' n' c'] w fun e w' => e = .returned (.tuple #[.slice none 0 0, .int .i64 1]) ∧ w = w' := by
  rcases rights_no ha hb h with ⟨_, RA, RB⟩ | RA
  · have RA := Lib.hid RA; have RB := Lib.hid RB
    clear ha hb h
    go_enter Try.func35, Try.ntmps35
    go_wp2_with fail
    refine (RA.out _ rfl).mono ?_
    rintro e w' ⟨rfl, rfl⟩
    go_wp2_with fail
    refine (RB.out _ rfl).mono ?_
    rintro e w' ⟨rfl, rfl⟩
    go_wp2_with fail
    go_ret2
    exact ⟨rfl, rfl⟩
  · have RA := Lib.hid RA
    clear ha hb h
    go_enter Try.func35, Try.ntmps35
    go_wp2_with fail
    refine (RA.out _ rfl).mono ?_
    rintro e w' ⟨rfl, rfl⟩
    go_wp2_with fail
    go_ret2
    exact ⟨rfl, rfl⟩
end Go.Proofs.Ythhphbaimpcjfaa
