/- The walks of shifted, shiftedBack. -/
import Derived.Test.YtnacokogihanoaaDoorWalkH
namespace Go.Proofs.YtnacokogihanoaaDoor
open Go.RowKit
set_option linter.unusedVariables false
set_option linter.unusedSimpArgs false

/-- A new block of n + 1 limbs of the number v. -/
def RetS (n v : Nat) (w : World) (e : Ending) (w' : World) : Prop := ∃ ss, e = .returned (.slice (some ⟨w.heap.size, 0, none⟩) (n + 1) (n + 1)) ∧ ss.length = n + 1 ∧ val ss = v ∧ Row w' w.heap.size ss ∧ Below w.heap.size w w'
/-- What is in the loop of shifted. -/
structure Shf (w : World) (g n : Nat) (xs : List Nat) (s i : Nat) (wr : World) : Prop where
  ss : ∃ ss y, ss.length = i ∧ y < 2 ^ s ∧ val ss + B ^ i * y = val (xs.take i) * 2 ^ s ∧ Row wr g (ss ++ y :: List.replicate (n - i) 0)
  t : Turn w wr g
theorem pow32 {s : Nat} (h : s ≤ 32) : 2 ^ s * 2 ^ (32 - s) = 4294967296 := by rw [← Nat.pow_add, Nat.add_sub_cancel' h]
/-- The lower half of a shifted limb. -/
theorem low_shift (x s : Nat) (h : s ≤ 32) : x * 2 ^ s % 4294967296 = 2 ^ s * (x % 2 ^ (32 - s)) := by
  rw [← pow32 h, Nat.mul_comm x, Nat.mul_mod_mul_left]
theorem or_low (x y s : Nat) (h : s ≤ 32) (hy : y < 2 ^ s) : y ||| (x * 2 ^ s % 4294967296) = y + x * 2 ^ s % 4294967296 := by
  rw [low_shift x s h, Nat.or_comm, Nat.mul_comm, or_apart _ _ _ hy, Nat.add_comm]
theorem or_low_lt (x y s : Nat) (h : s ≤ 32) (hy : y < 2 ^ s) : y + x * 2 ^ s % 4294967296 < 4294967296 := by
  rw [low_shift x s h]
  have e := pow32 h
  have l : x % 2 ^ (32 - s) < 2 ^ (32 - s) := Nat.mod_lt _ (Nat.two_pow_pos _)
  have : 2 ^ s * (x % 2 ^ (32 - s) + 1) ≤ 2 ^ s * 2 ^ (32 - s) := Nat.mul_le_mul_left _ l
  rw [Nat.mul_add, e] at this
  omega
theorem high_shift (x s : Nat) (h : s ≤ 32) (hx : x < 4294967296) : x * 2 ^ s / 4294967296 < 2 ^ s := by
  rw [Nat.div_lt_iff_lt_mul (by decide), Nat.mul_comm]
  exact Nat.mul_lt_mul_of_pos_left hx (Nat.two_pow_pos s)
theorem shl_nat (x s : Nat) (hs : s ≤ 32) (hx : x < 4294967296) : IntKind.u64.wrap ((x : Int) * 2 ^ s) = ((x * 2 ^ s : Nat) : Int) := by
  have e : (x : Int) * 2 ^ s = ((x * 2 ^ s : Nat) : Int) := by rw [Int.natCast_mul, Int.natCast_pow]; rfl
  have k : x * 2 ^ s ≤ 4294967296 * 4294967296 - 1 := by
    have k3 : 2 ^ s ≤ 4294967296 := by rw [← pow32 hs]; exact Nat.le_mul_of_pos_right _ (Nat.two_pow_pos _)
    have : x * 2 ^ s ≤ 4294967295 * 4294967296 := Nat.mul_le_mul (by omega) k3
    omega
  rw [e, IntKind.wrap_u64]
  generalize x * 2 ^ s = q at *
  omega
theorem shl_or (x y s : Nat) (hs : s ≤ 32) (hx : x < 4294967296) (hy : y < 2 ^ s) : bits BinOp.or IntKind.u32 (y : Int) (IntKind.u64.wrap ((x : Int) * 2 ^ s) % 4294967296) = ((y + x * 2 ^ s % 4294967296 : Nat) : Int) := by
  have k3 : 2 ^ s ≤ 4294967296 := by rw [← pow32 hs]; exact Nat.le_mul_of_pos_right _ (Nat.two_pow_pos _)
  rw [shl_nat x s hs hx, ← or_low x y s hs hy, show ((x * 2 ^ s : Nat) : Int) % 4294967296 = ((x * 2 ^ s % 4294967296 : Nat) : Int) from rfl]
  exact u32_or_nat _ _ (by omega) (Nat.mod_lt _ (by decide))
theorem shl_high (x s : Nat) (hs : s ≤ 32) (hx : x < 4294967296) : IntKind.u64.wrap ((x : Int) * 2 ^ s) / 4294967296 % 4294967296 = ((x * 2 ^ s / 4294967296 : Nat) : Int) := by
  have k3 : 2 ^ s ≤ 4294967296 := by rw [← pow32 hs]; exact Nat.le_mul_of_pos_right _ (Nat.two_pow_pos _)
  have k := high_shift x s hs hx
  rw [shl_nat x s hs hx]
  generalize x * 2 ^ s = q at *
  omega
theorem shf_step {P V y S x t : Nat} (h : V + P * y = S) : V + P * (y + t % 4294967296) + P * 4294967296 * (t / 4294967296) = S + P * t := by
  have e2 : t = t % 4294967296 + 4294967296 * (t / 4294967296) := by omega
  have e3 : P * t = P * (t % 4294967296) + P * 4294967296 * (t / 4294967296) := by
    conv => lhs; rw [e2, Nat.mul_add, ← Nat.mul_assoc]
  rw [Nat.mul_add]
  omega
theorem Shf.step {w : World} {g n : Nat} {xs : List Nat} {s i : Nat} {wr : World} (h : Shf w g n xs s i wr) (hs : s ≤ 32) (hi : i < xs.length) (hn : xs.length = n) (lx : Lo xs) :
    ∃ y, y < 2 ^ s ∧ wr.cell? ⟨g, i, none⟩ = some (lv y) ∧ wr.cell? ⟨g, i + 1, none⟩ = some (lv 0) ∧ wr.frozen? ⟨g, i, none⟩ = false ∧ wr.frozen? ⟨g, i + 1, none⟩ = false ∧
      Shf w g n xs s (i + 1) ((wr.setCell ⟨g, i, none⟩ (lv (y + xs[i] * 2 ^ s % 4294967296))).setCell ⟨g, i + 1, none⟩ (lv (xs[i] * 2 ^ s / 4294967296))) := by
  obtain ⟨ss, y, hl, hy, hv, R⟩ := h.ss
  have hx := lx.at_ i hi
  have e0 : List.replicate (n - i) 0 = 0 :: List.replicate (n - (i + 1)) 0 := by
    rw [show n - i = n - (i + 1) + 1 by omega, List.replicate_succ]
  rw [e0] at R
  have k1 := or_low_lt xs[i] y s hs hy
  have k2 := high_shift xs[i] s hs hx
  have k3 : 2 ^ s ≤ 4294967296 := by rw [← pow32 hs]; exact Nat.le_mul_of_pos_right _ (Nat.two_pow_pos _)
  refine ⟨y, hy, R.cell' ?_, R.cell' ?_, R.melt _, R.melt _, ⟨ss ++ [y + xs[i] * 2 ^ s % 4294967296], xs[i] * 2 ^ s / 4294967296, by simp [hl], k2, ?_, ?_⟩, (h.t.setCell _ _).setCell _ _⟩
  · rw [List.getElem?_append_right (by omega), hl, Nat.sub_self]; rfl
  · rw [List.getElem?_append_right (by omega), hl, show i + 1 - i = 1 by omega]; rfl
  · rw [val_snoc, hl, val_take_succ xs i hi, Nat.pow_succ, Nat.add_mul, Nat.mul_assoc (B ^ i) xs[i], show B ^ i * B = B ^ i * 4294967296 by rw [B_eq]]
    exact shf_step (x := 0) hv
  · have R2 := (R.set_ i _ k1).set_ (i + 1) (xs[i] * 2 ^ s / 4294967296) (by omega)
    rw [List.set_append_right _ _ (by omega), hl, Nat.sub_self, List.set_cons_zero, List.set_append_right _ _ (by omega), hl, show i + 1 - i = 0 + 1 by omega, List.set_cons_succ, List.set_cons_zero] at R2
    rw [List.append_assoc]
    exact R2

set_option maxHeartbeats 2000000 in
set_option maxRecDepth 100000 in
theorem shifted_any {A : Option Addr} {n c s : Nat} {xs : List Nat} {w : World} (ha : Lim w A n c xs) (hn : n ≤ 1000) (hs : s < 32) :
    Calls Tryd.prog 112 #[.slice A n c, .int .i64 s] w fun e w' => RetS n (val xs * 2 ^ s) w e w' := by
  have hmk : ∀ W : World, (Instr.makeSlice 23 (.int .i64 ((n : Int) + 1)) (.int .i64 ((n : Int) + 1))).run Tryd.prog W = .ok (.slice (some ⟨W.heap.size, 0, none⟩) (n + 1) (n + 1)) (W.alloc (zrow (n + 1))) := make_u32 (n + 1) (by omega)
  have hl := ha.len
  have S0 : Shf (w.alloc (zrow (n + 1))) w.heap.size n xs s 0 (w.alloc (zrow (n + 1))) := ⟨⟨[], 0, rfl, Nat.two_pow_pos s, by rw [List.take_zero, val_nil, Nat.mul_zero, Nat.zero_mul], by simpa [List.replicate_succ] using Row.zeros w (n + 1)⟩, Turn.refl _ _⟩
  have LA := Lib.hid (ha.alloc (zrow (n + 1)))
  have NA := Lib.hid ha.new_ne
  have LX := Lib.hid ha.lo
  have hBl : Below w.heap.size w (w.alloc (zrow (n + 1))) := (Below.refl _ _).alloc (Nat.le_refl _) _
  have HL := Lib.hid hl
  have s0 : (0 : Int) ≤ s := by omega
  have s1 : (s : Int) < 32 := by omega
  clear ha hl
  go_enter Tryd.func112, Tryd.ntmps112
  go_wp2_with fail
  generalize w.alloc (zrow (n + 1)) = wa at *
  generalize hg : w.heap.size = g at *
  have HG := Lib.hid hg
  clear hg
  go_loopg [15] n (fun q s15 wr => ∃ i, i + q = n ∧ s15 = .int .i64 (i : Int) ∧ Shf wa g n xs s i wr)
  case atStart => exact ⟨0, by omega, rfl, S0⟩
  case round =>
    clear S0
    obtain ⟨i, hq, rfl, S⟩ := hrel
    have HQ := Lib.hid hq
    by_cases lt : i < n
    · have il : (i : Int) < n := by omega
      have il0 : (0 : Int) ≤ i := by omega
      clear hq
      have ix : i < xs.length := by rw [HL.out]; omega
      obtain ⟨ad, rfl, c1⟩ := (turn_lim S.t LA.out NA.out).at_ i ix
      obtain ⟨y, hy, c2, c3, f2, f3, ST⟩ := S.step (by omega) ix HL.out LX.out
      have ST := Lib.hid ST
      have hx := LX.out.at_ i ix
      generalize xs[i] = x at *
      have HYb := Lib.hid hy
      clear S hy
      go_wp2_with fail
      go_roundg (gk - 1)
      case measure => have := HQ.out; omega
      case rel =>
        go_light
        refine ⟨i + 1, by have := HQ.out; omega, by go_num, ?_⟩
        rw [shl_or x y s (by omega) hx HYb.out, shl_high x s (by omega) hx]
        exact ST.out
    · obtain rfl : n = i := by omega
      have il : ¬ (n : Int) < n := by omega
      obtain ⟨ss, y, hl, hy, hv, R⟩ := S.ss
      rw [Nat.sub_self, List.replicate_zero] at R
      rw [List.take_of_length_le (by rw [HL.out]; exact Nat.le_refl _)] at hv
      have T := hBl.trans (S.t.below (Nat.le_refl _))
      have EV : Hid (val (ss ++ [y]) = val xs * 2 ^ s) := by unfold Hid; rw [val_snoc, hl, hv]
      have R := Lib.hid R
      have hl := Lib.hid hl
      clear S hq HQ hv hy
      go_wp2_with fail
      go_ret
      exact ⟨ss ++ [y], by rw [HG.out]; rfl, by simp [hl.out], EV.out, by rw [HG.out]; exact R.out, by rw [HG.out]; exact T⟩

/-- What is in the loop of shiftedBack. -/
structure Shb (w : World) (g n : Nat) (xs : List Nat) (s i : Nat) (wr : World) : Prop where
  ss : ∃ ss, ss.length + i = n ∧ val ss = val (xs.drop i) / 2 ^ s ∧ Row wr g (List.replicate i 0 ++ ss)
  t : Turn w wr g
theorem shr_cast (t s : Nat) : (t : Int) / 2 ^ s % 4294967296 = ((t / 2 ^ s % 4294967296 : Nat) : Int) := by
  have e : (2 : Int) ^ s = ((2 ^ s : Nat) : Int) := by rw [Int.natCast_pow]; rfl
  rw [e]
  rfl
theorem shb_math (x N s : Nat) (hs : s ≤ 32) (hx : x < 4294967296) : ((N % 4294967296 * 4294967296 + x) / 2 ^ s) % 4294967296 + 4294967296 * (N / 2 ^ s) = (x + 4294967296 * N) / 2 ^ s := by
  have e := pow32 hs
  have p := Nat.two_pow_pos s
  obtain ⟨r, hr⟩ : ∃ r, N % 2 ^ s = r := ⟨_, rfl⟩
  have hr2 : r < 2 ^ s := by rw [← hr]; exact Nat.mod_lt _ p
  have eN := Nat.div_add_mod N (2 ^ s)
  rw [hr] at eN
  have k1 : (x + 4294967296 * N) / 2 ^ s = 4294967296 * (N / 2 ^ s) + (x + 4294967296 * r) / 2 ^ s := by
    conv => lhs; rw [← eN, Nat.mul_add, ← Nat.add_assoc, Nat.add_right_comm, Nat.mul_left_comm, Nat.add_mul_div_left _ _ p, Nat.add_comm]
  have k2 : (x + 4294967296 * r) / 2 ^ s < 4294967296 := by
    rw [Nat.div_lt_iff_lt_mul p]
    have : 4294967296 * (r + 1) ≤ 4294967296 * 2 ^ s := Nat.mul_le_mul_left _ hr2
    omega
  have k3 : N % 4294967296 = r + 2 ^ s * ((N % 4294967296) / 2 ^ s) := by
    have a := Nat.div_add_mod (N % 4294967296) (2 ^ s)
    have b : N % 4294967296 % 2 ^ s = r := by
      rw [← e, Nat.mod_mul_right_mod, hr]
    omega
  have k4 : (N % 4294967296 * 4294967296 + x) / 2 ^ s = (x + 4294967296 * r) / 2 ^ s + 4294967296 * ((N % 4294967296) / 2 ^ s) := by
    generalize N % 4294967296 / 2 ^ s = m at *
    rw [k3, Nat.add_mul, Nat.mul_assoc, Nat.add_right_comm, Nat.add_mul_div_left _ _ p, Nat.mul_comm m, Nat.mul_comm r, Nat.add_comm x]
  rw [k4, k1, Nat.add_mul_mod_self_left, Nat.mod_eq_of_lt k2, Nat.add_comm]
theorem Shb.step {w : World} {g n : Nat} {xs : List Nat} {s i : Nat} {wr : World} (h : Shb w g n xs s (i + 1) wr) (hs : s ≤ 32) (hi : i < xs.length) (lx : Lo xs) (u : Nat) (hu : u % 4294967296 = val (xs.drop (i + 1)) % 4294967296) :
    wr.cell? ⟨g, i, none⟩ = some (lv 0) ∧ wr.frozen? ⟨g, i, none⟩ = false ∧
      Shb w g n xs s i (wr.setCell ⟨g, i, none⟩ (lv ((u % 4294967296 * 4294967296 + xs[i]) / 2 ^ s % 4294967296))) ∧ (u % 4294967296 * 4294967296 + xs[i]) % 4294967296 = val (xs.drop i) % 4294967296 := by
  obtain ⟨ss, hl, hv, R⟩ := h.ss
  have hx := lx.at_ i hi
  have e0 : List.replicate (i + 1) 0 ++ ss = List.replicate i 0 ++ (0 :: ss) := by
    rw [List.replicate_succ', List.append_assoc]; rfl
  rw [e0] at R
  have e1 := val_drop xs i hi
  rw [B_eq] at e1
  refine ⟨R.cell' ?_, R.melt _, ⟨⟨((u % 4294967296 * 4294967296 + xs[i]) / 2 ^ s % 4294967296) :: ss, by simp; omega, ?_, ?_⟩, h.t.setCell _ _⟩, ?_⟩
  · rw [List.getElem?_append_right (by simp)]; simp
  · rw [val_cons, hv, e1, B_eq, hu]
    exact shb_math xs[i] (val (xs.drop (i + 1))) s hs hx
  · have := R.set_ i ((u % 4294967296 * 4294967296 + xs[i]) / 2 ^ s % 4294967296) (Nat.mod_lt _ (by decide))
    rwa [List.set_append_right _ _ (by simp), List.length_replicate, Nat.sub_self, List.set_cons_zero] at this
  · rw [e1]; omega

set_option maxHeartbeats 2000000 in
set_option maxRecDepth 100000 in
theorem shiftedBack_any {A : Option Addr} {n c s : Nat} {xs : List Nat} {w : World} (ha : Lim w A n c xs) (hn : n ≤ 1000) (hs : s < 32) :
    Calls Tryd.prog 114 #[.slice A n c, .int .i64 s] w fun e w' => RetN (val xs / 2 ^ s) w e w' := by
  have hmk := make_u32 n (by omega)
  have hl := ha.len
  have S0 : Shb (w.alloc (zrow n)) w.heap.size n xs s n (w.alloc (zrow n)) := ⟨⟨[], by simp, by rw [List.drop_of_length_le (by omega), val_nil, Nat.zero_div], by simpa using Row.zeros w n⟩, Turn.refl _ _⟩
  have U0 : Hid (0 % 4294967296 = val (xs.drop n) % 4294967296) := by unfold Hid; rw [List.drop_of_length_le (by omega), val_nil]
  have LA := Lib.hid (ha.alloc (zrow n))
  have NA := Lib.hid ha.new_ne
  have LX := Lib.hid ha.lo
  have hBl : Below w.heap.size w (w.alloc (zrow n)) := (Below.refl _ _).alloc (Nat.le_refl _) _
  have HL := Lib.hid hl
  have s0 : (0 : Int) ≤ s := by omega
  have s1 : (s : Int) < 32 := by omega
  clear ha hl
  go_enter Tryd.func114, Tryd.ntmps114
  go_wp2_with fail
  generalize w.alloc (zrow n) = wa at *
  generalize hg : w.heap.size = g at *
  have HG := Lib.hid hg
  clear hg
  go_loopg [6, 7] n (fun q s6 s7 wr => ∃ u : Nat, q ≤ n ∧ u < 18446744073709551616 ∧ s7 = .int .i64 ((q : Int) - 1) ∧ s6 = .int .u64 (u : Int) ∧ Hid (u % 4294967296 = val (xs.drop q) % 4294967296) ∧ Shb wa g n xs s q wr)
  case atStart => exact ⟨0, Nat.le_refl _, by decide, rfl, rfl, U0, S0⟩
  case round =>
    clear S0 U0
    obtain ⟨u, hq, ub, rfl, rfl, U, S⟩ := hrel
    by_cases hz : gk = 0
    · subst hz
      have ek : ((0 : Nat) : Int) - 1 = -1 := by omega
      rw [ek]
      clear ek
      obtain ⟨ss, hl, hv, R⟩ := S.ss
      rw [List.drop_zero] at hv
      have T := hBl.trans (S.t.below (Nat.le_refl _))
      have TR := trim_any (R.lim (o := 0) (n := n) (c := n) (by simp; omega) (Nat.le_refl _) (by omega))
      rw [List.drop_zero, List.take_of_length_le (by simp; omega), List.replicate_zero, List.nil_append, hv] at TR
      have TR := Lib.hid TR
      clear R S hv hl hq
      go_wp2_with fail
      refine TR.out.mono ?_
      rintro e w2 ⟨A2, n2, c2, rfl, L2, rfl⟩
      go_wp2_with fail
      go_ret
      exact ⟨_, _, _, rfl, L2, by rw [HG.out]; exact T⟩
    · obtain ⟨k, rfl⟩ : ∃ k, gk = k + 1 := ⟨gk - 1, by omega⟩
      have ek : ((k + 1 : Nat) : Int) - 1 = (k : Int) := by omega
      rw [ek]
      have kx : k < xs.length := by rw [HL.out]; omega
      obtain ⟨ad, rfl, c1⟩ := (turn_lim S.t LA.out NA.out).at_ k kx
      obtain ⟨c3, f3, ST, U2⟩ := S.step (by omega) kx LX.out u U.out
      have ST := Lib.hid ST
      have U2 := Lib.hid U2
      have hx := LX.out.at_ k kx
      generalize xs[k] = x at *
      have il0 : (0 : Int) ≤ k := by omega
      have il : (k : Int) < n := by omega
      have E1 : Hid (bits BinOp.or IntKind.u64 (IntKind.u64.wrap ((u : Int) * 4294967296)) (x : Int) = ((u % 4294967296 * 4294967296 + x : Nat) : Int)) := by
        unfold Hid
        have e : IntKind.u64.wrap ((u : Int) * 4294967296) = ((u % 4294967296 : Nat) : Int) * 4294967296 := by rw [IntKind.wrap_u64]; omega
        rw [e, u64_or_up _ _ (Nat.mod_lt _ (by decide)) hx]
        omega
      clear S ek
      go_wp2_with fail
      go_roundg k
      case measure => omega
      case rel =>
        go_light
        rw [E1.out, shr_cast]
        exact ⟨_, by omega, by omega, rfl, rfl, U2, ST.out⟩
end Go.Proofs.YtnacokogihanoaaDoor
