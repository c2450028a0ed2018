/- The walks of product, Mul. -/
import Derived.Test.YtnacokogihanoaaDoorWalkF
namespace Go.Proofs.YtnacokogihanoaaDoor
open Go.RowKit

theorem val_set (ps : List Nat) (k v : Nat) (h : k < ps.length) : val (ps.set k v) + B ^ k * ps[k] = val ps + B ^ k * v := by
  induction ps generalizing k with
  | nil => simp at h
  | cons x r ih =>
    cases k with
    | zero => simp [val_cons]; omega
    | succ k =>
      have := ih k (by simpa using h)
      simp only [List.set_cons_succ, val_cons, List.getElem_cons_succ, Nat.pow_succ]
      have e : B * (val (r.set k v) + B ^ k * r[k]'(by simpa using h)) = B * (val r + B ^ k * v) := by rw [this]
      rw [Nat.mul_add, Nat.mul_add, ← Nat.mul_assoc, ← Nat.mul_assoc, Nat.mul_comm B (B ^ k)] at e
      omega
theorem cast_div (x y p k : Nat) : ((x : Int) * (y : Int) + (p : Int) + (k : Int)) / 4294967296 = (((x * y + p + k) / 4294967296 : Nat) : Int) := by
  rw [← Int.natCast_mul]; generalize x * y = q; omega
theorem cast_mod (x y p k : Nat) : ((x : Int) * (y : Int) + (p : Int) + (k : Int)) % 4294967296 = (((x * y + p + k) % 4294967296 : Nat) : Int) := by
  rw [← Int.natCast_mul]; generalize x * y = q; omega
/-- What is in the loops of product. -/
structure Prd (w : World) (g N : Nat) (xs ys : List Nat) (x i j k : Nat) (wr : World) : Prop where
  ps : ∃ ps, ps.length = N ∧ val ps + B ^ (i + j) * k = val (xs.take i) * val ys + B ^ i * x * val (ys.take j) ∧ (∀ t, i + ys.length ≤ t → t < N → ps[t]? = some 0) ∧ Row wr g ps
  kb : k < 4294967296
  t : Turn w wr g
theorem prd_step {P V S p x y k T v : Nat} (h : V + P * k = S) (e : v + P * p = V + P * (T % 4294967296)) (ht : T = x * y + p + k) : v + P * 4294967296 * (T / 4294967296) = S + P * (x * y) := by
  have e2 : T = T % 4294967296 + 4294967296 * (T / 4294967296) := by omega
  have e3 : P * T = P * (T % 4294967296) + P * 4294967296 * (T / 4294967296) := by
    conv => lhs; rw [e2, Nat.mul_add, ← Nat.mul_assoc]
  have e4 : P * T = P * (x * y) + P * p + P * k := by rw [ht, Nat.mul_add, Nat.mul_add]
  omega
theorem Prd.step {w : World} {g N : Nat} {xs ys : List Nat} {x i j k : Nat} {wr : World} (h : Prd w g N xs ys x i j k wr) (y : Nat) (hx : x < 4294967296) (hy : y < 4294967296) (hj : j < ys.length)
    (ey : val (ys.take (j + 1)) = val (ys.take j) + B ^ j * y) (hN : i + ys.length < N) :
    ∃ p, p < 4294967296 ∧ wr.cell? ⟨g, i + j, none⟩ = some (lv p) ∧ wr.frozen? ⟨g, i + j, none⟩ = false ∧
      Prd w g N xs ys x i (j + 1) ((x * y + p + k) / 4294967296) (wr.setCell ⟨g, i + j, none⟩ (lv ((x * y + p + k) % 4294967296))) := by
  obtain ⟨ps, hl, hv, hz, r⟩ := h.ps
  have hk := h.kb
  have hij : i + j < ps.length := by omega
  have hp := r.lo.at_ _ hij
  have hxy : x * y ≤ 4294967295 * 4294967295 := Nat.mul_le_mul (by omega) (by omega)
  refine ⟨ps[i + j], hp, r.cell _ hij, r.melt _, ⟨ps.set (i + j) ((x * y + ps[i + j] + k) % 4294967296), by simp [hl], ?_, ?_, r.set_ _ _ (Nat.mod_lt _ (by decide))⟩, ?_, h.t.setCell _ _⟩
  · have e := val_set ps (i + j) ((x * y + ps[i + j] + k) % 4294967296) hij
    have := prd_step hv e rfl
    rw [← Nat.add_assoc, Nat.pow_succ, ey]
    rw [show B ^ (i + j) * B = B ^ (i + j) * 4294967296 by rw [B_eq]]
    rw [this, Nat.mul_add, Nat.pow_add, Nat.add_assoc]
    congr 1
    congr 1
    rw [Nat.mul_assoc, Nat.mul_assoc, Nat.mul_left_comm x, ]
  · intro t h1 h2
    rw [List.getElem?_set_ne (by omega)]
    exact hz t h1 h2
  · generalize x * y = q at *
    omega
theorem Prd.turn {w : World} {g N : Nat} {xs ys : List Nat} {x i k : Nat} {wr : World} (h : Prd w g N xs ys x i ys.length k wr) (hi : i < xs.length) (hx : xs[i] = x) (hN : i + ys.length < N) (x' : Nat) :
    wr.cell? ⟨g, i + ys.length, none⟩ = some (lv 0) ∧ wr.frozen? ⟨g, i + ys.length, none⟩ = false ∧ Prd w g N xs ys x' (i + 1) 0 0 (wr.setCell ⟨g, i + ys.length, none⟩ (lv k)) := by
  obtain ⟨ps, hl, hv, hz, r⟩ := h.ps
  have hk := h.kb
  have h0 := hz (i + ys.length) (Nat.le_refl _) hN
  have hij : i + ys.length < ps.length := by omega
  have hp : ps[i + ys.length] = 0 := (List.getElem?_eq_some_iff.1 h0).2
  refine ⟨r.cell' h0, r.melt _, ⟨ps.set (i + ys.length) k, by simp [hl], ?_, ?_, r.set_ _ _ hk⟩, by omega, h.t.setCell _ _⟩
  · have e := val_set ps (i + ys.length) k hij
    rw [hp, Nat.mul_zero, Nat.add_zero] at e
    rw [e, hv, List.take_of_length_le (Nat.le_refl _), val_take_succ xs i hi, hx, Nat.add_mul, Nat.mul_zero, Nat.add_zero, List.take_zero, val_nil, Nat.mul_zero, Nat.add_zero]
  · intro t h1 h2
    rw [List.getElem?_set_ne (by omega)]
    exact hz t (by omega) h2

set_option maxHeartbeats 4000000 in
set_option maxRecDepth 100000 in
theorem product_any {A A' : Option Addr} {n c n' c' a b : Nat} {w : World} (ha : Lim w A n c (limbs a)) (hb : Lim w A' n' c' (limbs b)) (la : ln a ≤ 64) (lb : ln b ≤ 64) :
    Calls Tryd.prog 68 #[.slice A n c, .slice A' n' c'] w fun e w' => RetN (a * b) w e w' := by
  have hl := ha.len; have hl' := hb.len
  rw [limbs_length] at hl hl'
  have hmk : ∀ W : World, (Instr.makeSlice 23 (.int .i64 ((n : Int) + (n' : Int))) (.int .i64 ((n : Int) + (n' : Int)))).run Tryd.prog W = .ok (.slice (some ⟨W.heap.size, 0, none⟩) (n + n') (n + n')) (W.alloc (zrow (n + n'))) := make_u32 (n + n') (by omega)
  have S0 : Prd (w.alloc (zrow (n + n'))) w.heap.size (n + n') (limbs a) (limbs b) 0 0 0 0 (w.alloc (zrow (n + n'))) := by
    refine ⟨⟨List.replicate (n + n') 0, by simp, by rw [List.take_zero, List.take_zero, val_nil, Nat.mul_zero, Nat.mul_zero, Nat.zero_mul, val_zeros], fun t _ h2 => ?_, Row.zeros w _⟩, by omega, Turn.refl _ _⟩
    rw [List.getElem?_replicate, if_pos h2]
  have LA := Lib.hid (ha.alloc (zrow (n + n'))); have LB := Lib.hid (hb.alloc (zrow (n + n')))
  have NA := Lib.hid ha.new_ne; have NB := Lib.hid hb.new_ne
  have hBl : Below w.heap.size w (w.alloc (zrow (n + n'))) := (Below.refl _ _).alloc (Nat.le_refl _) _
  have HL := Lib.hid ha.len; have HL' := Lib.hid hb.len
  have hn64 : n ≤ 64 := by omega
  have hn64' : n' ≤ 64 := by omega
  clear ha hb la lb hl hl'
  go_enter Tryd.func68, Tryd.ntmps68
  go_wp2_with fail
  generalize w.alloc (zrow (n + n')) = wa at *
  generalize hg : w.heap.size = g at *
  have HG := Lib.hid hg
  clear hg
  go_loopg [20] n (fun q s20 wr => ∃ i x, i + q = n ∧ s20 = .int .i64 (i : Int) ∧ Prd wa g (n + n') (limbs a) (limbs b) x i 0 0 wr)
  case atStart => exact ⟨0, 0, by omega, rfl, S0⟩
  case round =>
    clear S0
    obtain ⟨i, x, hq, rfl, S⟩ := hrel
    have HQ := Lib.hid hq
    by_cases lt : i < n
    · clear hq
      have il : (i : Int) < n := by omega
      have il0 : (0 : Int) ≤ i := by omega
      have i1 : i < (limbs a).length := by rw [HL.out]; omega
      obtain ⟨ad, rfl, c1⟩ := (turn_lim S.t LA.out NA.out).at_ i i1
      have bx := (lo_limbs a).at_ i i1
      obtain ⟨x1, hx1⟩ : ∃ x1, (limbs a)[i] = x1 := ⟨_, rfl⟩
      have S1 : Prd wa g (n + n') (limbs a) (limbs b) x1 i 0 0 wr := by
        obtain ⟨ps, p1, p2, p3, p4⟩ := S.ps
        refine ⟨⟨ps, p1, ?_, p3, p4⟩, S.kb, S.t⟩
        rw [List.take_zero, val_nil, Nat.mul_zero, Nat.add_zero] at p2 ⊢
        exact p2
      have HX1 := Lib.hid hx1
      rw [hx1] at c1 bx
      clear S hx1 x
      go_wp2_with fail
      go_loopg [8, 27] n' (fun q s8 s27 wr => ∃ j k : Nat, j + q = n' ∧ s27 = .int .i64 (j : Int) ∧ s8 = .int .u64 (k : Int) ∧ Prd wa g (n + n') (limbs a) (limbs b) x1 i j k wr)
      case atStart => exact ⟨0, 0, by omega, rfl, rfl, S1⟩
      case round =>
        clear S1 c1
        obtain ⟨j, k, hq2, rfl, rfl, S⟩ := hrel
        have HQ2 := Lib.hid hq2
        by_cases lt2 : j < n'
        · clear hq2
          have jl : (j : Int) < n' := by omega
          have jl0 : (0 : Int) ≤ j := by omega
          have i2 : j < (limbs b).length := by rw [HL'.out]; omega
          obtain ⟨ad', rfl, c2⟩ := (turn_lim S.t LB.out NB.out).at_ j i2
          have bY := (lo_limbs b).at_ j i2
          obtain ⟨p, bp, c3, f3, ST⟩ := S.step _ bx bY i2 (val_take_succ _ j i2) (by rw [HL'.out]; omega)
          have ST := Lib.hid ST
          generalize (limbs b)[j] = y at *
          have bk := S.kb
          have hxy : x1 * y ≤ 4294967295 * 4294967295 := Nat.mul_le_mul (by omega) (by omega)
          have exy : ((x1 * y : Nat) : Int) = (x1 : Int) * (y : Int) := Int.natCast_mul _ _
          have hxy1 : (x1 : Int) * (y : Int) ≤ 18446744065119617025 := by omega
          have hxy0 : 0 ≤ (x1 : Int) * (y : Int) := by omega
          have ij1 : (i : Int) + j < n + n' := by omega
          have ij0 : (0 : Int) ≤ (i : Int) + j := by omega
          clear S exy hxy
          go_wp2_with fail
          go_roundg (gk - 1)
          case measure => have := HQ2.out; omega
          case rel =>
            go_light
            refine ⟨j + 1, _, by have := HQ2.out; omega, by go_num, congrArg (Value.int .u64) (cast_div x1 y p k), ?_⟩
            rw [cast_mod x1 y p k]
            exact ST.out
        · obtain rfl : n' = j := by omega
          have jl : ¬ (n' : Int) < n' := by omega
          have bk := S.kb
          have i2 : i < (limbs a).length := i1
          have T := S
          rw [← HL'.out] at T
          obtain ⟨c3, f3, ST⟩ := T.turn i2 HX1.out (by rw [HL'.out]; omega) 0
          rw [HL'.out] at c3 f3 ST
          have ST := Lib.hid ST
          have ij1 : (i : Int) + n' < n + n' := by omega
          have ij0 : (0 : Int) ≤ (i : Int) + n' := by omega
          clear S T hq2 lt2
          go_wp2_with fail
          go_roundg (n - (i + 1))
          case measure => have := HQ.out; omega
          case rel =>
            go_light
            exact ⟨i + 1, 0, by have := HQ.out; omega, by go_num, ST.out⟩
    · obtain rfl : n = i := by omega
      have il : ¬ (n : Int) < n := by omega
      obtain ⟨ps, p1, p2, p3, R⟩ := S.ps
      rw [Nat.mul_zero, Nat.add_zero, List.take_zero, val_nil, Nat.mul_zero, Nat.add_zero, List.take_of_length_le (by rw [HL.out]; exact Nat.le_refl _), val_limbs, val_limbs] at p2
      have T := hBl.trans (S.t.below (Nat.le_refl _))
      have TR := trim_any (R.lim (o := 0) (n := n + n') (c := n + n') (by omega) (Nat.le_refl _) (by omega))
      rw [List.drop_zero, List.take_of_length_le (by omega), p2] at TR
      have TR := Lib.hid TR
      clear R S p1 p2 p3 hq HQ
      go_wp2_with fail
      refine TR.out.mono ?_
      rintro e w2 ⟨A2, n2, c2, rfl, L2, rfl⟩
      go_wp2_with fail
      go_ret
      exact ⟨_, _, _, rfl, L2, by rw [HG.out]; exact T⟩

set_option maxRecDepth 100000 in
theorem mul_any {A A' : Option Addr} {n c n' c' a b : Nat} {w : World} (ha : Lim w A n c (limbs a)) (hb : Lim w A' n' c' (limbs b)) (la : ln a ≤ 64) (lb : ln b ≤ 64) :
    Calls Tryd.prog 26 #[.slice A n c, .slice A' n' c'] w fun e w' => RetE (fitN (a * b)) (fitE (a * b)) w e w' := by
  have RA := Lib.hid (right_yes ha la); have RB := Lib.hid (right_yes hb lb)
  have K := Lib.hid (product_any ha hb la lb)
  clear ha hb la lb
  go_enter Tryd.func26, Tryd.ntmps26
  go_wp2_with fail
  refine RA.out.mono ?_
  rintro e w' ⟨rfl, rfl⟩
  go_wp2_with fail
  refine RB.out.mono ?_
  rintro e w' ⟨rfl, rfl⟩
  go_wp2_with fail
  refine K.out.mono ?_
  rintro e w1 ⟨A1, n1, c1, rfl, L1, B1⟩
  go_wp2_with fail
  refine (fitting_any L1).mono ?_
  rintro e w2 ⟨A2, n2, c2, rfl, L2, B2⟩
  go_wp2_with fail
  go_ret2
  exact ⟨_, _, _, rfl, L2, below_step B1 B2⟩
set_option maxRecDepth 100000 in
theorem mul_none {A A' : Option Addr} {n c n' c' : Nat} {xs ys : List Nat} {w : World} (ha : Lim w A n c xs) (hb : Lim w A' n' c' ys) (h : NoTwo xs ys) :
    Calls Tryd.prog 26 #[.slice A n c, .slice A' n' c'] w fun e w' => e = .returned (.tuple #[.slice none 0 0, .int .i64 1]) ∧ w = w' := by
  rcases rights_no ha hb h with ⟨_, RA, RB⟩ | RA
  · have RA := Lib.hid RA; have RB := Lib.hid RB
    clear ha hb h
    go_enter Tryd.func26, Tryd.ntmps26
    go_wp2_with fail
    refine (RA.out _ rfl).mono ?_
    rintro e w' ⟨rfl, rfl⟩
    go_wp2_with fail
    refine (RB.out _ rfl).mono ?_
    rintro e w' ⟨rfl, rfl⟩
    go_wp2_with fail
    go_ret2
    exact ⟨rfl, rfl⟩
  · have RA := Lib.hid RA
    clear ha hb h
    go_enter Tryd.func26, Tryd.ntmps26
    go_wp2_with fail
    refine (RA.out _ rfl).mono ?_
    rintro e w' ⟨rfl, rfl⟩
    go_wp2_with fail
    go_ret2
    exact ⟨rfl, rfl⟩
end Go.Proofs.YtnacokogihanoaaDoor
