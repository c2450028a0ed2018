/- The walks of product, Mul. The walks of From, Of, divShort. The walks of shifted, shiftedBack. The walk of takeTimes. -/
import Derived.Test.YtdnikdocfbbkkaaDoorJ01
namespace Go.Proofs.YtdnikdocfbbkkaaDoor
open Go.RowKit

theorem val_set (ps : List Nat) (k v : Nat) (h : k < ps.length) : val (ps.set k v) + B ^ k * ps[k] = val ps + B ^ k * v := by
  induction ps generalizing k with
  | nil => simp at h
  | cons x r ih =>
    cases k with
    | zero => simp [val_cons]; omega
    | succ k =>
      have := ih k (by simpa using h)
      simp only [List.set_cons_succ, val_cons, List.getElem_cons_succ, Nat.pow_succ]
      have e : B * (val (r.set k v) + B ^ k * r[k]'(by simpa using h)) = B * (val r + B ^ k * v) := by rw [this]
      rw [Nat.mul_add, Nat.mul_add, ← Nat.mul_assoc, ← Nat.mul_assoc, Nat.mul_comm B (B ^ k)] at e
      omega
theorem cast_div (x y p k : Nat) : ((x : Int) * (y : Int) + (p : Int) + (k : Int)) / 4294967296 = (((x * y + p + k) / 4294967296 : Nat) : Int) := by
  rw [← Int.natCast_mul]; generalize x * y = q; omega
theorem cast_mod (x y p k : Nat) : ((x : Int) * (y : Int) + (p : Int) + (k : Int)) % 4294967296 = (((x * y + p + k) % 4294967296 : Nat) : Int) := by
  rw [← Int.natCast_mul]; generalize x * y = q; omega
/-- What is in the loops of product. -/
structure Prd (w : World) (g N : Nat) (xs ys : List Nat) (x i j k : Nat) (wr : World) : Prop where
  ps : ∃ ps, ps.length = N ∧ val ps + B ^ (i + j) * k = val (xs.take i) * val ys + B ^ i * x * val (ys.take j) ∧ (∀ t, i + ys.length ≤ t → t < N → ps[t]? = some 0) ∧ Row wr g ps
  kb : k < 4294967296
  t : Turn w wr g
theorem prd_step {P V S p x y k T v : Nat} (h : V + P * k = S) (e : v + P * p = V + P * (T % 4294967296)) (ht : T = x * y + p + k) : v + P * 4294967296 * (T / 4294967296) = S + P * (x * y) := by
  have e2 : T = T % 4294967296 + 4294967296 * (T / 4294967296) := by omega
  have e3 : P * T = P * (T % 4294967296) + P * 4294967296 * (T / 4294967296) := by
    conv => lhs; rw [e2, Nat.mul_add, ← Nat.mul_assoc]
  have e4 : P * T = P * (x * y) + P * p + P * k := by rw [ht, Nat.mul_add, Nat.mul_add]
  omega
theorem Prd.step {w : World} {g N : Nat} {xs ys : List Nat} {x i j k : Nat} {wr : World} (h : Prd w g N xs ys x i j k wr) (y : Nat) (hx : x < 4294967296) (hy : y < 4294967296) (hj : j < ys.length)
    (ey : val (ys.take (j + 1)) = val (ys.take j) + B ^ j * y) (hN : i + ys.length < N) :
    ∃ p, p < 4294967296 ∧ wr.cell? ⟨g, i + j, none⟩ = some (lv p) ∧ wr.frozen? ⟨g, i + j, none⟩ = false ∧
      Prd w g N xs ys x i (j + 1) ((x * y + p + k) / 4294967296) (wr.setCell ⟨g, i + j, none⟩ (lv ((x * y + p + k) % 4294967296))) := by
  obtain ⟨ps, hl, hv, hz, r⟩ := h.ps
  have hk := h.kb
  have hij : i + j < ps.length := by omega
  have hp := r.lo.at_ _ hij
  have hxy : x * y ≤ 4294967295 * 4294967295 := Nat.mul_le_mul (by omega) (by omega)
  refine ⟨ps[i + j], hp, r.cell _ hij, r.melt _, ⟨ps.set (i + j) ((x * y + ps[i + j] + k) % 4294967296), by simp [hl], ?_, ?_, r.set_ _ _ (Nat.mod_lt _ (by decide))⟩, ?_, h.t.setCell _ _⟩
  · have e := val_set ps (i + j) ((x * y + ps[i + j] + k) % 4294967296) hij
    have := prd_step hv e rfl
    rw [← Nat.add_assoc, Nat.pow_succ, ey]
    rw [show B ^ (i + j) * B = B ^ (i + j) * 4294967296 by rw [B_eq]]
    rw [this, Nat.mul_add, Nat.pow_add, Nat.add_assoc]
    congr 1
    congr 1
    rw [Nat.mul_assoc, Nat.mul_assoc, Nat.mul_left_comm x, ]
  · intro t h1 h2
    rw [List.getElem?_set_ne (by omega)]
    exact hz t h1 h2
  · generalize x * y = q at *
    omega
theorem Prd.turn {w : World} {g N : Nat} {xs ys : List Nat} {x i k : Nat} {wr : World} (h : Prd w g N xs ys x i ys.length k wr) (hi : i < xs.length) (hx : xs[i] = x) (hN : i + ys.length < N) (x' : Nat) :
    wr.cell? ⟨g, i + ys.length, none⟩ = some (lv 0) ∧ wr.frozen? ⟨g, i + ys.length, none⟩ = false ∧ Prd w g N xs ys x' (i + 1) 0 0 (wr.setCell ⟨g, i + ys.length, none⟩ (lv k)) := by
  obtain ⟨ps, hl, hv, hz, r⟩ := h.ps
  have hk := h.kb
  have h0 := hz (i + ys.length) (Nat.le_refl _) hN
  have hij : i + ys.length < ps.length := by omega
  have hp : ps[i + ys.length] = 0 := (List.getElem?_eq_some_iff.1 h0).2
  refine ⟨r.cell' h0, r.melt _, ⟨ps.set (i + ys.length) k, by simp [hl], ?_, ?_, r.set_ _ _ hk⟩, by omega, h.t.setCell _ _⟩
  · have e := val_set ps (i + ys.length) k hij
    rw [hp, Nat.mul_zero, Nat.add_zero] at e
    rw [e, hv, List.take_of_length_le (Nat.le_refl _), val_take_succ xs i hi, hx, Nat.add_mul, Nat.mul_zero, Nat.add_zero, List.take_zero, val_nil, Nat.mul_zero, Nat.add_zero]
  · intro t h1 h2
    rw [List.getElem?_set_ne (by omega)]
    exact hz t (by omega) h2

set_option maxHeartbeats 4000000 in
set_option maxRecDepth 100000 in
theorem product_any {A A' : Option Addr} {n c n' c' a b : Nat} {w : World} (ha : Lim w A n c (limbs a)) (hb : Lim w A' n' c' (limbs b)) (la : ln a ≤ 64) (lb : ln b ≤ 64) :
    Calls Tryd.prog 79 #[.slice A n c, .slice A' n' c'] w fun e w' => RetN (a * b) w e w' := by
  have hl := ha.len; have hl' := hb.len
  rw [limbs_length] at hl hl'
  have hmk : ∀ W : World, (Instr.makeSlice 23 (.int .i64 ((n : Int) + (n' : Int))) (.int .i64 ((n : Int) + (n' : Int)))).run Tryd.prog W = .ok (.slice (some ⟨W.heap.size, 0, none⟩) (n + n') (n + n')) (W.alloc (zrow (n + n'))) := make_u32 (n + n') (by omega)
  have S0 : Prd (w.alloc (zrow (n + n'))) w.heap.size (n + n') (limbs a) (limbs b) 0 0 0 0 (w.alloc (zrow (n + n'))) := by
    refine ⟨⟨List.replicate (n + n') 0, by simp, by rw [List.take_zero, List.take_zero, val_nil, Nat.mul_zero, Nat.mul_zero, Nat.zero_mul, val_zeros], fun t _ h2 => ?_, Row.zeros w _⟩, by omega, Turn.refl _ _⟩
    rw [List.getElem?_replicate, if_pos h2]
  have LA := Lib.hid (ha.alloc (zrow (n + n'))); have LB := Lib.hid (hb.alloc (zrow (n + n')))
  have NA := Lib.hid ha.new_ne; have NB := Lib.hid hb.new_ne
  have hBl : Below w.heap.size w (w.alloc (zrow (n + n'))) := (Below.refl _ _).alloc (Nat.le_refl _) _
  have HL := Lib.hid ha.len; have HL' := Lib.hid hb.len
  have hn64 : n ≤ 64 := by omega
  have hn64' : n' ≤ 64 := by omega
  clear ha hb la lb hl hl'
  go_enter Tryd.func79, Tryd.ntmps79
  go_wp2_with fail
  generalize w.alloc (zrow (n + n')) = wa at *
  generalize hg : w.heap.size = g at *
  have HG := Lib.hid hg
  clear hg
  go_loopg [20] n (fun q s20 wr => ∃ i x, i + q = n ∧ s20 = .int .i64 (i : Int) ∧ Prd wa g (n + n') (limbs a) (limbs b) x i 0 0 wr)
  case atStart => exact ⟨0, 0, by omega, rfl, S0⟩
  case round =>
    clear S0
    obtain ⟨i, x, hq, rfl, S⟩ := hrel
    have HQ := Lib.hid hq
    by_cases lt : i < n
    · clear hq
      have il : (i : Int) < n := by omega
      have il0 : (0 : Int) ≤ i := by omega
      have i1 : i < (limbs a).length := by rw [HL.out]; omega
      obtain ⟨ad, rfl, c1⟩ := (turn_lim S.t LA.out NA.out).at_ i i1
      have bx := (lo_limbs a).at_ i i1
      obtain ⟨x1, hx1⟩ : ∃ x1, (limbs a)[i] = x1 := ⟨_, rfl⟩
      have S1 : Prd wa g (n + n') (limbs a) (limbs b) x1 i 0 0 wr := by
        obtain ⟨ps, p1, p2, p3, p4⟩ := S.ps
        refine ⟨⟨ps, p1, ?_, p3, p4⟩, S.kb, S.t⟩
        rw [List.take_zero, val_nil, Nat.mul_zero, Nat.add_zero] at p2 ⊢
        exact p2
      have HX1 := Lib.hid hx1
      rw [hx1] at c1 bx
      clear S hx1 x
      go_wp2_with fail
      go_loopg [8, 27] n' (fun q s8 s27 wr => ∃ j k : Nat, j + q = n' ∧ s27 = .int .i64 (j : Int) ∧ s8 = .int .u64 (k : Int) ∧ Prd wa g (n + n') (limbs a) (limbs b) x1 i j k wr)
      case atStart => exact ⟨0, 0, by omega, rfl, rfl, S1⟩
      case round =>
        clear S1 c1
        obtain ⟨j, k, hq2, rfl, rfl, S⟩ := hrel
        have HQ2 := Lib.hid hq2
        by_cases lt2 : j < n'
        · clear hq2
          have jl : (j : Int) < n' := by omega
          have jl0 : (0 : Int) ≤ j := by omega
          have i2 : j < (limbs b).length := by rw [HL'.out]; omega
          obtain ⟨ad', rfl, c2⟩ := (turn_lim S.t LB.out NB.out).at_ j i2
          have bY := (lo_limbs b).at_ j i2
          obtain ⟨p, bp, c3, f3, ST⟩ := S.step _ bx bY i2 (val_take_succ _ j i2) (by rw [HL'.out]; omega)
          have ST := Lib.hid ST
          generalize (limbs b)[j] = y at *
          have bk := S.kb
          have hxy : x1 * y ≤ 4294967295 * 4294967295 := Nat.mul_le_mul (by omega) (by omega)
          have exy : ((x1 * y : Nat) : Int) = (x1 : Int) * (y : Int) := Int.natCast_mul _ _
          have hxy1 : (x1 : Int) * (y : Int) ≤ 18446744065119617025 := by omega
          have hxy0 : 0 ≤ (x1 : Int) * (y : Int) := by omega
          have ij1 : (i : Int) + j < n + n' := by omega
          have ij0 : (0 : Int) ≤ (i : Int) + j := by omega
          clear S exy hxy
          go_wp2_with fail
          go_roundg (gk - 1)
          case measure => have := HQ2.out; omega
          case rel =>
            go_light
            refine ⟨j + 1, _, by have := HQ2.out; omega, by go_num, congrArg (Value.int .u64) (cast_div x1 y p k), ?_⟩
            rw [cast_mod x1 y p k]
            exact ST.out
        · obtain rfl : n' = j := by omega
          have jl : ¬ (n' : Int) < n' := by omega
          have bk := S.kb
          have i2 : i < (limbs a).length := i1
          have T := S
          rw [← HL'.out] at T
          obtain ⟨c3, f3, ST⟩ := T.turn i2 HX1.out (by rw [HL'.out]; omega) 0
          rw [HL'.out] at c3 f3 ST
          have ST := Lib.hid ST
          have ij1 : (i : Int) + n' < n + n' := by omega
          have ij0 : (0 : Int) ≤ (i : Int) + n' := by omega
          clear S T hq2 lt2
          go_wp2_with fail
          go_roundg (n - (i + 1))
          case measure => have := HQ.out; omega
          case rel =>
            go_light
            exact ⟨i + 1, 0, by have := HQ.out; omega, by go_num, ST.out⟩
    · obtain rfl : n = i := by omega
      have il : ¬ (n : Int) < n := by omega
      obtain ⟨ps, p1, p2, p3, R⟩ := S.ps
      rw [Nat.mul_zero, Nat.add_zero, List.take_zero, val_nil, Nat.mul_zero, Nat.add_zero, List.take_of_length_le (by rw [HL.out]; exact Nat.le_refl _), val_limbs, val_limbs] at p2
      have T := hBl.trans (S.t.below (Nat.le_refl _))
      have TR := trim_any (R.lim (o := 0) (n := n + n') (c := n + n') (by omega) (Nat.le_refl _) (by omega))
      rw [List.drop_zero, List.take_of_length_le (by omega), p2] at TR
      have TR := Lib.hid TR
      clear R S p1 p2 p3 hq HQ
      go_wp2_with fail
      refine TR.out.mono ?_
      rintro e w2 ⟨A2, n2, c2, rfl, L2, rfl⟩
      go_wp2_with fail
      go_ret
      exact ⟨_, _, _, rfl, L2, by rw [HG.out]; exact T⟩

set_option maxRecDepth 100000 in
theorem mul_any {A A' : Option Addr} {n c n' c' a b : Nat} {w : World} (ha : Lim w A n c (limbs a)) (hb : Lim w A' n' c' (limbs b)) (la : ln a ≤ 64) (lb : ln b ≤ 64) :
    Calls Tryd.prog 28 #[.slice A n c, .slice A' n' c'] w fun e w' => RetE (fitN (a * b)) (fitE (a * b)) w e w' := by
  have RA := Lib.hid (right_yes ha la); have RB := Lib.hid (right_yes hb lb)
  have K := Lib.hid (product_any ha hb la lb)
  clear ha hb la lb
  go_enter Tryd.func28, Tryd.ntmps28
  go_wp2_with fail
  refine RA.out.mono ?_
  rintro e w' ⟨rfl, rfl⟩
  go_wp2_with fail
  refine RB.out.mono ?_
  rintro e w' ⟨rfl, rfl⟩
  go_wp2_with fail
  refine K.out.mono ?_
  rintro e w1 ⟨A1, n1, c1, rfl, L1, B1⟩
  go_wp2_with fail
  refine (fitting_any L1).mono ?_
  rintro e w2 ⟨A2, n2, c2, rfl, L2, B2⟩
  go_wp2_with fail
  go_ret2
  exact ⟨_, _, _, rfl, L2, below_step B1 B2⟩
set_option maxRecDepth 100000 in
theorem mul_none {A A' : Option Addr} {n c n' c' : Nat} {xs ys : List Nat} {w : World} (ha : Lim w A n c xs) (hb : Lim w A' n' c' ys) (h : NoTwo xs ys) :
    Calls Tryd.prog 28 #[.slice A n c, .slice A' n' c'] w fun e w' => e = .returned (.tuple #[.slice none 0 0, .int .i64 1]) ∧ w = w' := by
  rcases rights_no ha hb h with ⟨_, RA, RB⟩ | RA
  · have RA := Lib.hid RA; have RB := Lib.hid RB
    clear ha hb h
    go_enter Tryd.func28, Tryd.ntmps28
    go_wp2_with fail
    refine (RA.out _ rfl).mono ?_
    rintro e w' ⟨rfl, rfl⟩
    go_wp2_with fail
    refine (RB.out _ rfl).mono ?_
    rintro e w' ⟨rfl, rfl⟩
    go_wp2_with fail
    go_ret2
    exact ⟨rfl, rfl⟩
  · have RA := Lib.hid RA
    clear ha hb h
    go_enter Tryd.func28, Tryd.ntmps28
    go_wp2_with fail
    refine (RA.out _ rfl).mono ?_
    rintro e w' ⟨rfl, rfl⟩
    go_wp2_with fail
    go_ret2
    exact ⟨rfl, rfl⟩
end Go.Proofs.YtdnikdocfbbkkaaDoor
namespace Go.Proofs.YtdnikdocfbbkkaaDoor
open Go.RowKit
set_option linter.unusedVariables false
set_option linter.unusedSimpArgs false

theorem Row.new_of (w : World) (xs : List Nat) (vs : Array Value) (h : Lo xs) (e : vs = (xs.map lv).toArray) : Row (w.alloc (.cells vs 37)) w.heap.size xs := by
  subst e; exact Row.new w xs h
theorem four_val (h l : Nat) : val [l % 4294967296, l / 4294967296, h % 4294967296, h / 4294967296] = h * 18446744073709551616 + l := by
  rw [val_cons, val_cons, val_cons, val_cons, val_nil, B_eq]; omega

set_option maxHeartbeats 1000000 in
set_option maxRecDepth 100000 in
theorem from_any (h l : Nat) (hh : h < 18446744073709551616) (hl : l < 18446744073709551616) (w : World) : Calls Tryd.prog 26 #[.agg #[.int .u64 h, .int .u64 l]] w fun e w' => RetN (h * 18446744073709551616 + l) w e w' := by
  have R : Hid (∀ W : World, Row (W.alloc (.cells #[.int .u32 ((l : Int) % 4294967296), .int .u32 ((l : Int) / 4294967296), .int .u32 ((h : Int) % 4294967296), .int .u32 ((h : Int) / 4294967296)] 37)) W.heap.size [l % 4294967296, l / 4294967296, h % 4294967296, h / 4294967296]) := by
    intro W
    refine Row.new_of W _ _ (.cons ?_ (.cons ?_ (.cons ?_ (.cons ?_ .nil)))) ?_
    · omega
    · omega
    · omega
    · omega
    · simp
  have EV := Lib.hid (four_val h l)
  go_enter Tryd.func26, Tryd.ntmps26
  go_wp2_with fail
  have R1 := R.out (w.alloc (.cells #[.int .u64 h, .int .u64 l] 26))
  have hb : Below w.heap.size w ((w.alloc (.cells #[.int .u64 h, .int .u64 l] 26)).alloc (.cells #[.int .u32 ((l : Int) % 4294967296), .int .u32 ((l : Int) / 4294967296), .int .u32 ((h : Int) % 4294967296), .int .u32 ((h : Int) / 4294967296)] 37)) := ((Below.refl _ _).alloc (Nat.le_refl _) _).alloc (by simp) _
  have TR := trim_any (R1.lim (o := 0) (n := 4) (c := 4) (by simp) (Nat.le_refl _) (by omega))
  rw [List.drop_zero, List.take_of_length_le (by simp), EV.out] at TR
  simp only [World.size_alloc] at TR
  refine TR.mono ?_
  rintro e w1 ⟨A1, n1, c1, rfl, L1, rfl⟩
  go_wp2_with fail
  go_ret
  exact ⟨_, _, _, rfl, L1, hb⟩
set_option maxRecDepth 100000 in
theorem of_any (n : Nat) (hn : n < 18446744073709551616) (w : World) : Calls Tryd.prog 25 #[.int .u64 n] w fun e w' => RetN n w e w' := by
  have K := from_any 0 n (by decide) hn
  rw [Nat.zero_mul, Nat.zero_add] at K
  have K := Lib.hid K
  go_enter Tryd.func25, Tryd.ntmps25
  go_wp2_with fail
  refine (K.out _).mono ?_
  rintro e w1 ⟨A1, n1, c1, rfl, L1, B1⟩
  go_wp2_with fail
  go_ret
  exact ⟨_, _, _, rfl, L1, B1⟩

/-- A natural, and a limb. -/
def RetQ (q r : Nat) (w : World) (e : Ending) (w' : World) : Prop := ∃ A n c, e = .returned (.tuple #[.slice A n c, lv r]) ∧ Lim w' A n c (limbs q) ∧ Below w.heap.size w w'
/-- .. and where the natural lies. -/
def RetQ2 (q r : Nat) (w : World) (e : Ending) (w' : World) : Prop := ∃ A n c, e = .returned (.tuple #[.slice A n c, lv r]) ∧ Lim w' A n c (limbs q) ∧ (∀ ad, A = some ad → ad.block = w.heap.size) ∧ Below w.heap.size w w'
/-- What is in the loop of divShort. -/
structure Dsh (w : World) (g n : Nat) (xs : List Nat) (b i r : Nat) (wr : World) : Prop where
  qs : ∃ qs, qs.length + i = n ∧ val (xs.drop i) = val qs * b + r ∧ Row wr g (List.replicate i 0 ++ qs)
  rb : r < b
  t : Turn w wr g
theorem Dsh.drewN {w : World} {g n : Nat} {xs : List Nat} {b i r : Nat} {wr : World} (h : Dsh w g n xs b i r wr) (m : Nat) : Dsh w g n xs b i r (wr.drewN m) := by
  obtain ⟨qs, a, c, R⟩ := h.qs
  exact ⟨⟨qs, a, c, R.drewN m⟩, h.rb, h.t.drewN m⟩
theorem dsh_step {N Q b r B' x T : Nat} (h : N = Q * b + r) (ht : T = r * B' + x) : x + B' * N = (T / b + B' * Q) * b + T % b := by
  have e := Nat.div_add_mod T b
  rw [h, Nat.add_mul, Nat.mul_add, ← Nat.mul_assoc, Nat.mul_comm (T / b) b]
  rw [Nat.mul_comm B' r]
  omega
theorem Dsh.step {w : World} {g n : Nat} {xs : List Nat} {b i r : Nat} {wr : World} (h : Dsh w g n xs b (i + 1) r wr) (hb : b < 4294967296) (hi : i < xs.length) (lx : Lo xs) (hn : i < n) :
    wr.cell? ⟨g, i, none⟩ = some (lv 0) ∧ wr.frozen? ⟨g, i, none⟩ = false ∧
      Dsh w g n xs b i ((r * 4294967296 + xs[i]) % b) (wr.setCell ⟨g, i, none⟩ (lv ((r * 4294967296 + xs[i]) / b))) := by
  obtain ⟨qs, hl, hv, R⟩ := h.qs
  have hr := h.rb
  have hx := lx.at_ i hi
  have hq : (r * 4294967296 + xs[i]) / b < 4294967296 := by
    rw [Nat.div_lt_iff_lt_mul (by omega)]
    have : (r + 1) * 4294967296 ≤ b * 4294967296 := Nat.mul_le_mul_right _ hr
    rw [Nat.mul_comm b] at this
    omega
  have e0 : List.replicate (i + 1) 0 ++ qs = List.replicate i 0 ++ (0 :: qs) := by
    rw [List.replicate_succ', List.append_assoc]; rfl
  rw [e0] at R
  refine ⟨?_, R.melt _, ⟨((r * 4294967296 + xs[i]) / b) :: qs, by simp; omega, ?_, ?_⟩, Nat.mod_lt _ (by omega), h.t.setCell _ _⟩
  · exact R.cell' (by rw [List.getElem?_append_right (by simp)]; simp)
  · rw [val_drop xs i hi, val_cons]
    exact dsh_step hv (by rw [B_eq])
  · have := R.set_ i ((r * 4294967296 + xs[i]) / b) hq
    rwa [List.set_append_right _ _ (by simp), List.length_replicate, Nat.sub_self, List.set_cons_zero] at this

set_option maxHeartbeats 2000000 in
set_option maxRecDepth 100000 in
theorem divShort_at {A : Option Addr} {n c b : Nat} {xs : List Nat} {w : World} (ha : Lim w A n c xs) (hn : n ≤ 1000) (b0 : 0 < b) (bb : b < 4294967296) :
    Calls Tryd.prog 72 #[.slice A n c, lv b] w fun e w' => RetQ2 (val xs / b) (val xs % b) w e w' := by
  have hmk := make_u32 n (by omega)
  have hl := ha.len
  have S0 : Dsh (w.alloc (zrow n)) w.heap.size n xs b n 0 (w.alloc (zrow n)) := ⟨⟨[], by simp, by rw [List.drop_of_length_le (by omega), val_nil, Nat.zero_mul], by simpa using Row.zeros w n⟩, b0, Turn.refl _ _⟩
  have LA := Lib.hid (ha.alloc (zrow n))
  have NA := Lib.hid ha.new_ne
  have LX := Lib.hid ha.lo
  have hBl : Below w.heap.size w (w.alloc (zrow n)) := (Below.refl _ _).alloc (Nat.le_refl _) _
  have HL := Lib.hid hl
  clear ha hl
  go_enter Tryd.func72, Tryd.ntmps72
  go_wp2_with fail
  generalize w.alloc (zrow n) = wa at *
  generalize hg : w.heap.size = g at *
  have HG := Lib.hid hg
  clear hg
  go_loopg [7, 8] n (fun q s7 s8 wr => ∃ r, q ≤ n ∧ s8 = .int .i64 ((q : Int) - 1) ∧ s7 = lv r ∧ Dsh wa g n xs b q r wr)
  case atStart => exact ⟨0, Nat.le_refl _, rfl, rfl, S0⟩
  case round =>
    clear S0
    obtain ⟨r, hq, rfl, rfl, S⟩ := hrel
    by_cases hz : gk = 0
    · subst hz
      have ek : ((0 : Nat) : Int) - 1 = -1 := by omega
      rw [ek]
      clear ek
      obtain ⟨qs, ql, qv, R⟩ := S.qs
      rw [List.drop_zero] at qv
      have hr := S.rb
      have e1 : val xs / b = val qs ∧ val xs % b = r := by
        refine (Nat.div_mod_unique b0).2 ⟨?_, hr⟩
        rw [qv, Nat.mul_comm, Nat.add_comm]
      have T := hBl.trans (S.t.below (Nat.le_refl _))
      have TR := trim_at (R.lim (o := 0) (n := n) (c := n) (by simp; omega) (Nat.le_refl _) (by omega))
      unfold RetA at TR
      rw [List.drop_zero, List.take_of_length_le (by simp; omega), List.replicate_zero, List.nil_append, ← e1.1] at TR
      have TR := Lib.hid TR
      have E1 := Lib.hid e1
      clear R S qv ql hq e1
      go_wp2_with fail
      refine TR.out.mono ?_
      rintro e w2 ⟨A2, n2, c2, rfl, L2, H2, rfl⟩
      go_wp2_with fail
      go_ret2
      exact ⟨_, _, _, by rw [E1.out.2]; rfl, L2, fun ad e => (by have e2 := H2 ad e; injection e2 with e2; rw [HG.out, ← e2]), by rw [HG.out]; exact T⟩
    · obtain ⟨k, rfl⟩ : ∃ k, gk = k + 1 := ⟨gk - 1, by omega⟩
      have ek : ((k + 1 : Nat) : Int) - 1 = (k : Int) := by omega
      rw [ek]
      have kx : k < xs.length := by rw [HL.out]; omega
      obtain ⟨ad, rfl, c1⟩ := (turn_lim S.t LA.out NA.out).at_ k kx
      obtain ⟨c3, f3, ST⟩ := S.step bb kx LX.out (by omega)
      have ST := Lib.hid ST
      have hx := LX.out.at_ k kx
      have KD := Lib.hid (div32 r xs[k] b S.rb hx bb)
      generalize xs[k] = x at *
      generalize (r * 4294967296 + x) / b = v at *
      generalize (r * 4294967296 + x) % b = r2 at *
      have il0 : (0 : Int) ≤ k := by omega
      have il : (k : Int) < n := by omega
      clear S ek
      go_wp2_with fail
      refine (KD.out _).mono ?_
      rintro e w1 ⟨rfl, m, rfl⟩
      go_wp2_with fail
      go_roundg k
      case measure => omega
      case rel =>
        go_light
        exact ⟨r2, by omega, rfl, rfl, ST.out.drewN m⟩
theorem divShort_any {A : Option Addr} {n c b : Nat} {xs : List Nat} {w : World} (ha : Lim w A n c xs) (hn : n ≤ 1000) (b0 : 0 < b) (bb : b < 4294967296) :
    Calls Tryd.prog 72 #[.slice A n c, lv b] w fun e w' => RetQ (val xs / b) (val xs % b) w e w' :=
  (divShort_at ha hn b0 bb).mono fun _ _ ⟨A', n', c', h1, h2, _, h4⟩ => ⟨A', n', c', h1, h2, h4⟩
end Go.Proofs.YtdnikdocfbbkkaaDoor
namespace Go.Proofs.YtdnikdocfbbkkaaDoor
open Go.RowKit
set_option linter.unusedVariables false
set_option linter.unusedSimpArgs false

/-- A new block of n + 1 limbs of the number v. -/
def RetS (n v : Nat) (w : World) (e : Ending) (w' : World) : Prop := ∃ ss, e = .returned (.slice (some ⟨w.heap.size, 0, none⟩) (n + 1) (n + 1)) ∧ ss.length = n + 1 ∧ val ss = v ∧ Row w' w.heap.size ss ∧ Below w.heap.size w w'
/-- What is in the loop of shifted. -/
structure Shf (w : World) (g n : Nat) (xs : List Nat) (s i : Nat) (wr : World) : Prop where
  ss : ∃ ss y, ss.length = i ∧ y < 2 ^ s ∧ val ss + B ^ i * y = val (xs.take i) * 2 ^ s ∧ Row wr g (ss ++ y :: List.replicate (n - i) 0)
  t : Turn w wr g
theorem pow32 {s : Nat} (h : s ≤ 32) : 2 ^ s * 2 ^ (32 - s) = 4294967296 := by rw [← Nat.pow_add, Nat.add_sub_cancel' h]
/-- The lower half of a shifted limb. -/
theorem low_shift (x s : Nat) (h : s ≤ 32) : x * 2 ^ s % 4294967296 = 2 ^ s * (x % 2 ^ (32 - s)) := by
  rw [← pow32 h, Nat.mul_comm x, Nat.mul_mod_mul_left]
theorem or_low (x y s : Nat) (h : s ≤ 32) (hy : y < 2 ^ s) : y ||| (x * 2 ^ s % 4294967296) = y + x * 2 ^ s % 4294967296 := by
  rw [low_shift x s h, Nat.or_comm, Nat.mul_comm, or_apart _ _ _ hy, Nat.add_comm]
theorem or_low_lt (x y s : Nat) (h : s ≤ 32) (hy : y < 2 ^ s) : y + x * 2 ^ s % 4294967296 < 4294967296 := by
  rw [low_shift x s h]
  have e := pow32 h
  have l : x % 2 ^ (32 - s) < 2 ^ (32 - s) := Nat.mod_lt _ (Nat.two_pow_pos _)
  have : 2 ^ s * (x % 2 ^ (32 - s) + 1) ≤ 2 ^ s * 2 ^ (32 - s) := Nat.mul_le_mul_left _ l
  rw [Nat.mul_add, e] at this
  omega
theorem high_shift (x s : Nat) (h : s ≤ 32) (hx : x < 4294967296) : x * 2 ^ s / 4294967296 < 2 ^ s := by
  rw [Nat.div_lt_iff_lt_mul (by decide), Nat.mul_comm]
  exact Nat.mul_lt_mul_of_pos_left hx (Nat.two_pow_pos s)
theorem shl_nat (x s : Nat) (hs : s ≤ 32) (hx : x < 4294967296) : IntKind.u64.wrap ((x : Int) * 2 ^ s) = ((x * 2 ^ s : Nat) : Int) := by
  have e : (x : Int) * 2 ^ s = ((x * 2 ^ s : Nat) : Int) := by rw [Int.natCast_mul, Int.natCast_pow]; rfl
  have k : x * 2 ^ s ≤ 4294967296 * 4294967296 - 1 := by
    have k3 : 2 ^ s ≤ 4294967296 := by rw [← pow32 hs]; exact Nat.le_mul_of_pos_right _ (Nat.two_pow_pos _)
    have : x * 2 ^ s ≤ 4294967295 * 4294967296 := Nat.mul_le_mul (by omega) k3
    omega
  rw [e, IntKind.wrap_u64]
  generalize x * 2 ^ s = q at *
  omega
theorem shl_or (x y s : Nat) (hs : s ≤ 32) (hx : x < 4294967296) (hy : y < 2 ^ s) : bits BinOp.or IntKind.u32 (y : Int) (IntKind.u64.wrap ((x : Int) * 2 ^ s) % 4294967296) = ((y + x * 2 ^ s % 4294967296 : Nat) : Int) := by
  have k3 : 2 ^ s ≤ 4294967296 := by rw [← pow32 hs]; exact Nat.le_mul_of_pos_right _ (Nat.two_pow_pos _)
  rw [shl_nat x s hs hx, ← or_low x y s hs hy, show ((x * 2 ^ s : Nat) : Int) % 4294967296 = ((x * 2 ^ s % 4294967296 : Nat) : Int) from rfl]
  exact u32_or_nat _ _ (by omega) (Nat.mod_lt _ (by decide))
theorem shl_high (x s : Nat) (hs : s ≤ 32) (hx : x < 4294967296) : IntKind.u64.wrap ((x : Int) * 2 ^ s) / 4294967296 % 4294967296 = ((x * 2 ^ s / 4294967296 : Nat) : Int) := by
  have k3 : 2 ^ s ≤ 4294967296 := by rw [← pow32 hs]; exact Nat.le_mul_of_pos_right _ (Nat.two_pow_pos _)
  have k := high_shift x s hs hx
  rw [shl_nat x s hs hx]
  generalize x * 2 ^ s = q at *
  omega
theorem shf_step {P V y S x t : Nat} (h : V + P * y = S) : V + P * (y + t % 4294967296) + P * 4294967296 * (t / 4294967296) = S + P * t := by
  have e2 : t = t % 4294967296 + 4294967296 * (t / 4294967296) := by omega
  have e3 : P * t = P * (t % 4294967296) + P * 4294967296 * (t / 4294967296) := by
    conv => lhs; rw [e2, Nat.mul_add, ← Nat.mul_assoc]
  rw [Nat.mul_add]
  omega
theorem Shf.step {w : World} {g n : Nat} {xs : List Nat} {s i : Nat} {wr : World} (h : Shf w g n xs s i wr) (hs : s ≤ 32) (hi : i < xs.length) (hn : xs.length = n) (lx : Lo xs) :
    ∃ y, y < 2 ^ s ∧ wr.cell? ⟨g, i, none⟩ = some (lv y) ∧ wr.cell? ⟨g, i + 1, none⟩ = some (lv 0) ∧ wr.frozen? ⟨g, i, none⟩ = false ∧ wr.frozen? ⟨g, i + 1, none⟩ = false ∧
      Shf w g n xs s (i + 1) ((wr.setCell ⟨g, i, none⟩ (lv (y + xs[i] * 2 ^ s % 4294967296))).setCell ⟨g, i + 1, none⟩ (lv (xs[i] * 2 ^ s / 4294967296))) := by
  obtain ⟨ss, y, hl, hy, hv, R⟩ := h.ss
  have hx := lx.at_ i hi
  have e0 : List.replicate (n - i) 0 = 0 :: List.replicate (n - (i + 1)) 0 := by
    rw [show n - i = n - (i + 1) + 1 by omega, List.replicate_succ]
  rw [e0] at R
  have k1 := or_low_lt xs[i] y s hs hy
  have k2 := high_shift xs[i] s hs hx
  have k3 : 2 ^ s ≤ 4294967296 := by rw [← pow32 hs]; exact Nat.le_mul_of_pos_right _ (Nat.two_pow_pos _)
  refine ⟨y, hy, R.cell' ?_, R.cell' ?_, R.melt _, R.melt _, ⟨ss ++ [y + xs[i] * 2 ^ s % 4294967296], xs[i] * 2 ^ s / 4294967296, by simp [hl], k2, ?_, ?_⟩, (h.t.setCell _ _).setCell _ _⟩
  · rw [List.getElem?_append_right (by omega), hl, Nat.sub_self]; rfl
  · rw [List.getElem?_append_right (by omega), hl, show i + 1 - i = 1 by omega]; rfl
  · rw [val_snoc, hl, val_take_succ xs i hi, Nat.pow_succ, Nat.add_mul, Nat.mul_assoc (B ^ i) xs[i], show B ^ i * B = B ^ i * 4294967296 by rw [B_eq]]
    exact shf_step (x := 0) hv
  · have R2 := (R.set_ i _ k1).set_ (i + 1) (xs[i] * 2 ^ s / 4294967296) (by omega)
    rw [List.set_append_right _ _ (by omega), hl, Nat.sub_self, List.set_cons_zero, List.set_append_right _ _ (by omega), hl, show i + 1 - i = 0 + 1 by omega, List.set_cons_succ, List.set_cons_zero] at R2
    rw [List.append_assoc]
    exact R2

set_option maxHeartbeats 2000000 in
set_option maxRecDepth 100000 in
theorem shifted_any {A : Option Addr} {n c s : Nat} {xs : List Nat} {w : World} (ha : Lim w A n c xs) (hn : n ≤ 1000) (hs : s < 32) :
    Calls Tryd.prog 137 #[.slice A n c, .int .i64 s] w fun e w' => RetS n (val xs * 2 ^ s) w e w' := by
  have hmk : ∀ W : World, (Instr.makeSlice 23 (.int .i64 ((n : Int) + 1)) (.int .i64 ((n : Int) + 1))).run Tryd.prog W = .ok (.slice (some ⟨W.heap.size, 0, none⟩) (n + 1) (n + 1)) (W.alloc (zrow (n + 1))) := make_u32 (n + 1) (by omega)
  have hl := ha.len
  have S0 : Shf (w.alloc (zrow (n + 1))) w.heap.size n xs s 0 (w.alloc (zrow (n + 1))) := ⟨⟨[], 0, rfl, Nat.two_pow_pos s, by rw [List.take_zero, val_nil, Nat.mul_zero, Nat.zero_mul], by simpa [List.replicate_succ] using Row.zeros w (n + 1)⟩, Turn.refl _ _⟩
  have LA := Lib.hid (ha.alloc (zrow (n + 1)))
  have NA := Lib.hid ha.new_ne
  have LX := Lib.hid ha.lo
  have hBl : Below w.heap.size w (w.alloc (zrow (n + 1))) := (Below.refl _ _).alloc (Nat.le_refl _) _
  have HL := Lib.hid hl
  have s0 : (0 : Int) ≤ s := by omega
  have s1 : (s : Int) < 32 := by omega
  clear ha hl
  go_enter Tryd.func137, Tryd.ntmps137
  go_wp2_with fail
  generalize w.alloc (zrow (n + 1)) = wa at *
  generalize hg : w.heap.size = g at *
  have HG := Lib.hid hg
  clear hg
  go_loopg [15] n (fun q s15 wr => ∃ i, i + q = n ∧ s15 = .int .i64 (i : Int) ∧ Shf wa g n xs s i wr)
  case atStart => exact ⟨0, by omega, rfl, S0⟩
  case round =>
    clear S0
    obtain ⟨i, hq, rfl, S⟩ := hrel
    have HQ := Lib.hid hq
    by_cases lt : i < n
    · have il : (i : Int) < n := by omega
      have il0 : (0 : Int) ≤ i := by omega
      clear hq
      have ix : i < xs.length := by rw [HL.out]; omega
      obtain ⟨ad, rfl, c1⟩ := (turn_lim S.t LA.out NA.out).at_ i ix
      obtain ⟨y, hy, c2, c3, f2, f3, ST⟩ := S.step (by omega) ix HL.out LX.out
      have ST := Lib.hid ST
      have hx := LX.out.at_ i ix
      generalize xs[i] = x at *
      have HYb := Lib.hid hy
      clear S hy
      go_wp2_with fail
      go_roundg (gk - 1)
      case measure => have := HQ.out; omega
      case rel =>
        go_light
        refine ⟨i + 1, by have := HQ.out; omega, by go_num, ?_⟩
        rw [shl_or x y s (by omega) hx HYb.out, shl_high x s (by omega) hx]
        exact ST.out
    · obtain rfl : n = i := by omega
      have il : ¬ (n : Int) < n := by omega
      obtain ⟨ss, y, hl, hy, hv, R⟩ := S.ss
      rw [Nat.sub_self, List.replicate_zero] at R
      rw [List.take_of_length_le (by rw [HL.out]; exact Nat.le_refl _)] at hv
      have T := hBl.trans (S.t.below (Nat.le_refl _))
      have EV : Hid (val (ss ++ [y]) = val xs * 2 ^ s) := by unfold Hid; rw [val_snoc, hl, hv]
      have R := Lib.hid R
      have hl := Lib.hid hl
      clear S hq HQ hv hy
      go_wp2_with fail
      go_ret
      exact ⟨ss ++ [y], by rw [HG.out]; rfl, by simp [hl.out], EV.out, by rw [HG.out]; exact R.out, by rw [HG.out]; exact T⟩

/-- What is in the loop of shiftedBack. -/
structure Shb (w : World) (g n : Nat) (xs : List Nat) (s i : Nat) (wr : World) : Prop where
  ss : ∃ ss, ss.length + i = n ∧ val ss = val (xs.drop i) / 2 ^ s ∧ Row wr g (List.replicate i 0 ++ ss)
  t : Turn w wr g
theorem shr_cast (t s : Nat) : (t : Int) / 2 ^ s % 4294967296 = ((t / 2 ^ s % 4294967296 : Nat) : Int) := by
  have e : (2 : Int) ^ s = ((2 ^ s : Nat) : Int) := by rw [Int.natCast_pow]; rfl
  rw [e]
  rfl
theorem shb_math (x N s : Nat) (hs : s ≤ 32) (hx : x < 4294967296) : ((N % 4294967296 * 4294967296 + x) / 2 ^ s) % 4294967296 + 4294967296 * (N / 2 ^ s) = (x + 4294967296 * N) / 2 ^ s := by
  have e := pow32 hs
  have p := Nat.two_pow_pos s
  obtain ⟨r, hr⟩ : ∃ r, N % 2 ^ s = r := ⟨_, rfl⟩
  have hr2 : r < 2 ^ s := by rw [← hr]; exact Nat.mod_lt _ p
  have eN := Nat.div_add_mod N (2 ^ s)
  rw [hr] at eN
  have k1 : (x + 4294967296 * N) / 2 ^ s = 4294967296 * (N / 2 ^ s) + (x + 4294967296 * r) / 2 ^ s := by
    conv => lhs; rw [← eN, Nat.mul_add, ← Nat.add_assoc, Nat.add_right_comm, Nat.mul_left_comm, Nat.add_mul_div_left _ _ p, Nat.add_comm]
  have k2 : (x + 4294967296 * r) / 2 ^ s < 4294967296 := by
    rw [Nat.div_lt_iff_lt_mul p]
    have : 4294967296 * (r + 1) ≤ 4294967296 * 2 ^ s := Nat.mul_le_mul_left _ hr2
    omega
  have k3 : N % 4294967296 = r + 2 ^ s * ((N % 4294967296) / 2 ^ s) := by
    have a := Nat.div_add_mod (N % 4294967296) (2 ^ s)
    have b : N % 4294967296 % 2 ^ s = r := by
      rw [← e, Nat.mod_mul_right_mod, hr]
    omega
  have k4 : (N % 4294967296 * 4294967296 + x) / 2 ^ s = (x + 4294967296 * r) / 2 ^ s + 4294967296 * ((N % 4294967296) / 2 ^ s) := by
    generalize N % 4294967296 / 2 ^ s = m at *
    rw [k3, Nat.add_mul, Nat.mul_assoc, Nat.add_right_comm, Nat.add_mul_div_left _ _ p, Nat.mul_comm m, Nat.mul_comm r, Nat.add_comm x]
  rw [k4, k1, Nat.add_mul_mod_self_left, Nat.mod_eq_of_lt k2, Nat.add_comm]
theorem Shb.step {w : World} {g n : Nat} {xs : List Nat} {s i : Nat} {wr : World} (h : Shb w g n xs s (i + 1) wr) (hs : s ≤ 32) (hi : i < xs.length) (lx : Lo xs) (u : Nat) (hu : u % 4294967296 = val (xs.drop (i + 1)) % 4294967296) :
    wr.cell? ⟨g, i, none⟩ = some (lv 0) ∧ wr.frozen? ⟨g, i, none⟩ = false ∧
      Shb w g n xs s i (wr.setCell ⟨g, i, none⟩ (lv ((u % 4294967296 * 4294967296 + xs[i]) / 2 ^ s % 4294967296))) ∧ (u % 4294967296 * 4294967296 + xs[i]) % 4294967296 = val (xs.drop i) % 4294967296 := by
  obtain ⟨ss, hl, hv, R⟩ := h.ss
  have hx := lx.at_ i hi
  have e0 : List.replicate (i + 1) 0 ++ ss = List.replicate i 0 ++ (0 :: ss) := by
    rw [List.replicate_succ', List.append_assoc]; rfl
  rw [e0] at R
  have e1 := val_drop xs i hi
  rw [B_eq] at e1
  refine ⟨R.cell' ?_, R.melt _, ⟨⟨((u % 4294967296 * 4294967296 + xs[i]) / 2 ^ s % 4294967296) :: ss, by simp; omega, ?_, ?_⟩, h.t.setCell _ _⟩, ?_⟩
  · rw [List.getElem?_append_right (by simp)]; simp
  · rw [val_cons, hv, e1, B_eq, hu]
    exact shb_math xs[i] (val (xs.drop (i + 1))) s hs hx
  · have := R.set_ i ((u % 4294967296 * 4294967296 + xs[i]) / 2 ^ s % 4294967296) (Nat.mod_lt _ (by decide))
    rwa [List.set_append_right _ _ (by simp), List.length_replicate, Nat.sub_self, List.set_cons_zero] at this
  · rw [e1]; omega

set_option maxHeartbeats 2000000 in
set_option maxRecDepth 100000 in
theorem shiftedBack_any {A : Option Addr} {n c s : Nat} {xs : List Nat} {w : World} (ha : Lim w A n c xs) (hn : n ≤ 1000) (hs : s < 32) :
    Calls Tryd.prog 139 #[.slice A n c, .int .i64 s] w fun e w' => RetN (val xs / 2 ^ s) w e w' := by
  have hmk := make_u32 n (by omega)
  have hl := ha.len
  have S0 : Shb (w.alloc (zrow n)) w.heap.size n xs s n (w.alloc (zrow n)) := ⟨⟨[], by simp, by rw [List.drop_of_length_le (by omega), val_nil, Nat.zero_div], by simpa using Row.zeros w n⟩, Turn.refl _ _⟩
  have U0 : Hid (0 % 4294967296 = val (xs.drop n) % 4294967296) := by unfold Hid; rw [List.drop_of_length_le (by omega), val_nil]
  have LA := Lib.hid (ha.alloc (zrow n))
  have NA := Lib.hid ha.new_ne
  have LX := Lib.hid ha.lo
  have hBl : Below w.heap.size w (w.alloc (zrow n)) := (Below.refl _ _).alloc (Nat.le_refl _) _
  have HL := Lib.hid hl
  have s0 : (0 : Int) ≤ s := by omega
  have s1 : (s : Int) < 32 := by omega
  clear ha hl
  go_enter Tryd.func139, Tryd.ntmps139
  go_wp2_with fail
  generalize w.alloc (zrow n) = wa at *
  generalize hg : w.heap.size = g at *
  have HG := Lib.hid hg
  clear hg
  go_loopg [6, 7] n (fun q s6 s7 wr => ∃ u : Nat, q ≤ n ∧ u < 18446744073709551616 ∧ s7 = .int .i64 ((q : Int) - 1) ∧ s6 = .int .u64 (u : Int) ∧ Hid (u % 4294967296 = val (xs.drop q) % 4294967296) ∧ Shb wa g n xs s q wr)
  case atStart => exact ⟨0, Nat.le_refl _, by decide, rfl, rfl, U0, S0⟩
  case round =>
    clear S0 U0
    obtain ⟨u, hq, ub, rfl, rfl, U, S⟩ := hrel
    by_cases hz : gk = 0
    · subst hz
      have ek : ((0 : Nat) : Int) - 1 = -1 := by omega
      rw [ek]
      clear ek
      obtain ⟨ss, hl, hv, R⟩ := S.ss
      rw [List.drop_zero] at hv
      have T := hBl.trans (S.t.below (Nat.le_refl _))
      have TR := trim_any (R.lim (o := 0) (n := n) (c := n) (by simp; omega) (Nat.le_refl _) (by omega))
      rw [List.drop_zero, List.take_of_length_le (by simp; omega), List.replicate_zero, List.nil_append, hv] at TR
      have TR := Lib.hid TR
      clear R S hv hl hq
      go_wp2_with fail
      refine TR.out.mono ?_
      rintro e w2 ⟨A2, n2, c2, rfl, L2, rfl⟩
      go_wp2_with fail
      go_ret
      exact ⟨_, _, _, rfl, L2, by rw [HG.out]; exact T⟩
    · obtain ⟨k, rfl⟩ : ∃ k, gk = k + 1 := ⟨gk - 1, by omega⟩
      have ek : ((k + 1 : Nat) : Int) - 1 = (k : Int) := by omega
      rw [ek]
      have kx : k < xs.length := by rw [HL.out]; omega
      obtain ⟨ad, rfl, c1⟩ := (turn_lim S.t LA.out NA.out).at_ k kx
      obtain ⟨c3, f3, ST, U2⟩ := S.step (by omega) kx LX.out u U.out
      have ST := Lib.hid ST
      have U2 := Lib.hid U2
      have hx := LX.out.at_ k kx
      generalize xs[k] = x at *
      have il0 : (0 : Int) ≤ k := by omega
      have il : (k : Int) < n := by omega
      have E1 : Hid (bits BinOp.or IntKind.u64 (IntKind.u64.wrap ((u : Int) * 4294967296)) (x : Int) = ((u % 4294967296 * 4294967296 + x : Nat) : Int)) := by
        unfold Hid
        have e : IntKind.u64.wrap ((u : Int) * 4294967296) = ((u % 4294967296 : Nat) : Int) * 4294967296 := by rw [IntKind.wrap_u64]; omega
        rw [e, u64_or_up _ _ (Nat.mod_lt _ (by decide)) hx]
        omega
      clear S ek
      go_wp2_with fail
      go_roundg k
      case measure => omega
      case rel =>
        go_light
        rw [E1.out, shr_cast]
        exact ⟨_, by omega, by omega, rfl, rfl, U2, ST.out⟩
end Go.Proofs.YtdnikdocfbbkkaaDoor
namespace Go.Proofs.YtdnikdocfbbkkaaDoor
open Go.RowKit
set_option linter.unusedVariables false
set_option linter.unusedSimpArgs false

/-- What is in the loop of takeTimes. -/
structure Tak (w : World) (g o : Nat) (zs ys : List Nat) (f i k b : Nat) (wr : World) : Prop where
  ss : ∃ ss, ss.length = i ∧ Lo ss ∧ val ss + val (ys.take i) * f = val ((zs.drop o).take i) + B ^ i * (k + b) ∧ Row wr g (zs.take o ++ ss ++ zs.drop (o + i))
  kb : k < 4294967296
  bb : b ≤ 1
  t : Turn w wr g
theorem Tak.drew {w : World} {g o : Nat} {zs ys : List Nat} {f i k b : Nat} {wr : World} (h : Tak w g o zs ys f i k b wr) : Tak w g o zs ys f i k b wr.drew := by
  obtain ⟨ss, a, c, d, r⟩ := h.ss
  exact ⟨⟨ss, a, c, d, r.drew⟩, h.kb, h.bb, h.t.drew⟩
theorem tak_step {P V Y Z f x k b z T d b2 : Nat} (h : V + Y * f = Z + P * (k + b)) (ht : T = x * f + k) (hz : z + 4294967296 * b2 = d + T % 4294967296 + b) :
    V + P * d + (Y + P * x) * f = Z + P * z + P * 4294967296 * (T / 4294967296 + b2) := by
  have e : k + b + d + x * f = z + 4294967296 * (T / 4294967296 + b2) := by omega
  have e2 : P * (k + b) + P * d + P * (x * f) = P * z + P * 4294967296 * (T / 4294967296 + b2) := by
    rw [← Nat.mul_add, ← Nat.mul_add, e, Nat.mul_add, ← Nat.mul_assoc]
  rw [Nat.add_mul, Nat.mul_assoc]
  omega
theorem Tak.step {w : World} {g o : Nat} {zs ys : List Nat} {f i k b : Nat} {wr : World} (h : Tak w g o zs ys f i k b wr) (x : Nat) (hx : x < 4294967296) (hf : f < 4294967296)
    (ex : val (ys.take (i + 1)) = val (ys.take i) + B ^ i * x) (hz : o + i < zs.length) (lz : Lo zs) :
    wr.cell? ⟨g, o + i, none⟩ = some (lv zs[o + i]) ∧ wr.frozen? ⟨g, o + i, none⟩ = false ∧
    Tak w g o zs ys f (i + 1) ((x * f + k) / 4294967296) (bor zs[o + i] ((x * f + k) % 4294967296 + b)) (wr.setCell ⟨g, o + i, none⟩ (lv ((zs[o + i] + 8589934592 - (x * f + k) % 4294967296 - b) % 4294967296))) := by
  obtain ⟨ss, hl, lo, hv, r⟩ := h.ss
  have hk := h.kb
  have hb := h.bb
  have hzz := lz.at_ (o + i) hz
  have hxf : x * f ≤ 4294967295 * 4294967295 := Nat.mul_le_mul (by omega) (by omega)
  refine ⟨r.cell' (part_at zs ss o i hz hl), r.melt _, ⟨ss ++ [(zs[o + i] + 8589934592 - (x * f + k) % 4294967296 - b) % 4294967296], by simp [hl], lo.append (.cons (Nat.mod_lt _ (by decide)) .nil), ?_, ?_⟩, ?_, bor_le _ _, h.t.setCell _ _⟩
  · have hi : i < (zs.drop o).length := by simp; omega
    have e2 := val_take_succ (zs.drop o) i hi
    rw [List.getElem_drop] at e2
    rw [val_snoc, hl, ex, e2, Nat.pow_succ, show B ^ i * B = B ^ i * 4294967296 by rw [B_eq]]
    exact tak_step hv rfl (dif_limb _ _ _ hzz (Nat.mod_lt _ (by decide)) hb)
  · have := r.set_ (o + i) ((zs[o + i] + 8589934592 - (x * f + k) % 4294967296 - b) % 4294967296) (Nat.mod_lt _ (by decide))
    rwa [set_part zs ss _ o i hz hl] at this
  · generalize x * f = q at *
    omega
/-- What takeTimes leaves. -/
def RetT (w : World) (g o : Nat) (zs ys : List Nat) (f m : Nat) (e : Ending) (w' : World) : Prop := ∃ b : Nat, e = .returned (.bool ((b : Int) != 0)) ∧ Tak w g o zs ys f (m + 1) 0 b w'
theorem cast_div2 (x f k : Nat) : ((x : Int) * (f : Int) + (k : Int)) / 4294967296 = (((x * f + k) / 4294967296 : Nat) : Int) := by
  rw [← Int.natCast_mul]; generalize x * f = q; omega
theorem cast_mod2 (x f k : Nat) : ((x : Int) * (f : Int) + (k : Int)) % 4294967296 = (((x * f + k) % 4294967296 : Nat) : Int) := by
  rw [← Int.natCast_mul]; generalize x * f = q; omega

set_option maxHeartbeats 2000000 in
set_option maxRecDepth 100000 in
theorem takeTimes_any {A : Option Addr} {g o c m cb f : Nat} {zs ys : List Nat} {w : World} (hr : Row w g zs) (hy : Lim w A m cb ys) (hz : o + m < zs.length) (hm : m ≤ 1000) (hne : ∀ ad, A = some ad → 0 < m → ad.block ≠ g) (hf : f < 4294967296) :
    Calls Tryd.prog 143 #[.slice (some ⟨g, o, none⟩) (m + 1) c, .slice A m cb, .int .u64 f] w fun e w' => RetT w g o zs ys f m e w' := by
  have S0 : Tak w g o zs ys f 0 0 0 w := ⟨⟨[], rfl, .nil, by rw [List.take_zero, List.take_zero, val_nil, Nat.mul_zero, Nat.zero_mul], by simpa using hr⟩, by omega, by omega, Turn.refl _ _⟩
  have HY := Lib.hid hy; have HNE := Lib.hid hne
  have LZ := Lib.hid hr.lo
  have EY := Lib.hid hy.len
  clear hr hy hne
  go_enter Tryd.func143, Tryd.ntmps143
  go_wp2_with fail
  go_loopg [7, 8, 14] m (fun q s7 s8 s14 wr => ∃ (i k : Nat) (b : Nat), i + q = m ∧ s14 = .int .i64 (i : Int) ∧ s7 = .int .u64 (k : Int) ∧ s8 = lv b ∧ Tak w g o zs ys f i k b wr)
  case atStart => exact ⟨0, 0, 0, by omega, rfl, rfl, rfl, S0⟩
  case round =>
    clear S0
    obtain ⟨i, k, b, hq, rfl, rfl, rfl, S⟩ := hrel
    have HQ := Lib.hid hq
    have bk := S.kb
    have bb := S.bb
    by_cases lt : i < m
    · clear hq
      have il : (i : Int) < m := by omega
      have il1 : (i : Int) < (m : Int) + 1 := by omega
      have il0 : (0 : Int) ≤ i := by omega
      have i2 : i < ys.length := by rw [EY.out]; omega
      obtain ⟨ad, rfl, c2⟩ := (turn_lim S.t HY.out HNE.out).at_ i i2
      have bx := HY.out.lo.at_ i i2
      obtain ⟨c3, f3, ST⟩ := S.step ys[i] bx hf (val_take_succ ys i i2) (by omega) LZ.out
      have ST := Lib.hid ST
      have bz := LZ.out.at_ (o + i) (by omega)
      generalize ys[i] = x at *
      generalize zs[o + i]'(by omega) = z at *
      have hxy : x * f ≤ 4294967295 * 4294967295 := Nat.mul_le_mul (by omega) (by omega)
      have exy : ((x * f : Nat) : Int) = (x : Int) * (f : Int) := Int.natCast_mul _ _
      have hxy1 : (x : Int) * (f : Int) ≤ 18446744065119617025 := by omega
      have hxy0 : 0 ≤ (x : Int) * (f : Int) := by omega
      have KS := Lib.hid (sub32 z ((x * f + k) % 4294967296) b bz (Nat.mod_lt _ (by decide)) bb)
      have E1 := Lib.hid (cast_div2 x f k)
      have E2 := Lib.hid (cast_mod2 x f k)
      clear S exy hxy
      go_wp2_with fail
      rw [E2.out]
      refine (KS.out _).mono ?_
      rintro e w1 ⟨rfl, rfl⟩
      generalize (z + 8589934592 - (x * f + k) % 4294967296 - b) % 4294967296 = v at *
      generalize bor z ((x * f + k) % 4294967296 + b) = b2 at *
      go_wp2_with fail
      go_roundg (gk - 1)
      case measure => have := HQ.out; omega
      case rel =>
        go_light
        rw [E1.out]
        exact ⟨i + 1, _, _, by have := HQ.out; omega, by go_num, rfl, rfl, ST.out⟩
    · obtain rfl : m = i := by omega
      have il : ¬ (m : Int) < m := by omega
      obtain ⟨c3, f3, ST⟩ := S.step 0 (by decide) hf (by rw [List.take_of_length_le (by rw [EY.out]; omega), List.take_of_length_le (by rw [EY.out]; omega), Nat.mul_zero, Nat.add_zero]) hz LZ.out
      rw [Nat.zero_mul, Nat.zero_add, Nat.div_eq_of_lt bk, Nat.mod_eq_of_lt bk] at ST
      have ST := Lib.hid ST
      have bz := LZ.out.at_ (o + m) hz
      generalize zs[o + m]'hz = z at *
      have KS := Lib.hid (sub32 z k b bz bk bb)
      generalize (z + 8589934592 - k - b) % 4294967296 = v at *
      generalize bor z (k + b) = b2 at *
      clear S hq HQ
      go_wp2_with fail
      refine (KS.out _).mono ?_
      rintro e w1 ⟨rfl, rfl⟩
      go_wp2_with fail
      go_ret
      exact ⟨b2, rfl, ST.out⟩
end Go.Proofs.YtdnikdocfbbkkaaDoor
