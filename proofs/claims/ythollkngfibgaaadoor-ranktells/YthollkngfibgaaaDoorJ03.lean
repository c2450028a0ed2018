/- The walks of From, Of, divShort. The walks of shifted, shiftedBack. The walk of takeTimes. The walk of takeOut. Plain arithmetic of long division. -/
import Derived.Test.YthollkngfibgaaaDoorJ02
import Derived.BigRegion
namespace Go.Proofs.YthollkngfibgaaaDoor
open Go.RowKit
set_option linter.unusedVariables false
set_option linter.unusedSimpArgs false

theorem Row.new_of (w : World) (xs : List Nat) (vs : Array Value) (h : Lo xs) (e : vs = (xs.map lv).toArray) : Row (w.alloc (.cells vs 49)) w.heap.size xs := by
  subst e; exact Row.new w xs h
theorem four_val (h l : Nat) : val [l % 4294967296, l / 4294967296, h % 4294967296, h / 4294967296] = h * 18446744073709551616 + l := by
  rw [val_cons, val_cons, val_cons, val_cons, val_nil, B_eq]; omega

set_option maxHeartbeats 1000000 in
set_option maxRecDepth 100000 in
theorem from_any (h l : Nat) (hh : h < 18446744073709551616) (hl : l < 18446744073709551616) (w : World) : Calls Tryd.prog 47 #[.agg #[.int .u64 h, .int .u64 l]] w fun e w' => RetN (h * 18446744073709551616 + l) w e w' := by
  have R : Hid (∀ W : World, Row (W.alloc (.cells #[.int .u32 ((l : Int) % 4294967296), .int .u32 ((l : Int) / 4294967296), .int .u32 ((h : Int) % 4294967296), .int .u32 ((h : Int) / 4294967296)] 49)) W.heap.size [l % 4294967296, l / 4294967296, h % 4294967296, h / 4294967296]) := by
    intro W
    refine Row.new_of W _ _ (.cons ?_ (.cons ?_ (.cons ?_ (.cons ?_ .nil)))) ?_
    · omega
    · omega
    · omega
    · omega
    · simp
  have EV := Lib.hid (four_val h l)
  go_enter Tryd.func47, Tryd.ntmps47
  go_wp2_with fail
  have R1 := R.out (w.alloc (.cells #[.int .u64 h, .int .u64 l] 60))
  have hb : Below w.heap.size w ((w.alloc (.cells #[.int .u64 h, .int .u64 l] 60)).alloc (.cells #[.int .u32 ((l : Int) % 4294967296), .int .u32 ((l : Int) / 4294967296), .int .u32 ((h : Int) % 4294967296), .int .u32 ((h : Int) / 4294967296)] 49)) := ((Below.refl _ _).alloc (Nat.le_refl _) _).alloc (by simp) _
  have TR := trim_any (R1.lim (o := 0) (n := 4) (c := 4) (by simp) (Nat.le_refl _) (by omega))
  rw [List.drop_zero, List.take_of_length_le (by simp), EV.out] at TR
  simp only [World.size_alloc] at TR
  refine TR.mono ?_
  rintro e w1 ⟨A1, n1, c1, rfl, L1, rfl⟩
  go_wp2_with fail
  go_ret
  exact ⟨_, _, _, rfl, L1, hb⟩
set_option maxRecDepth 100000 in
theorem of_any (n : Nat) (hn : n < 18446744073709551616) (w : World) : Calls Tryd.prog 26 #[.int .u64 n] w fun e w' => RetN n w e w' := by
  have K := from_any 0 n (by decide) hn
  rw [Nat.zero_mul, Nat.zero_add] at K
  have K := Lib.hid K
  go_enter Tryd.func26, Tryd.ntmps26
  go_wp2_with fail
  refine (K.out _).mono ?_
  rintro e w1 ⟨A1, n1, c1, rfl, L1, B1⟩
  go_wp2_with fail
  go_ret
  exact ⟨_, _, _, rfl, L1, B1⟩

/-- A natural, and a limb. -/
def RetQ (q r : Nat) (w : World) (e : Ending) (w' : World) : Prop := ∃ A n c, e = .returned (.tuple #[.slice A n c, lv r]) ∧ Lim w' A n c (limbs q) ∧ Below w.heap.size w w'
/-- .. and where the natural lies. -/
def RetQ2 (q r : Nat) (w : World) (e : Ending) (w' : World) : Prop := ∃ A n c, e = .returned (.tuple #[.slice A n c, lv r]) ∧ Lim w' A n c (limbs q) ∧ (∀ ad, A = some ad → ad.block = w.heap.size) ∧ Below w.heap.size w w'
/-- What is in the loop of divShort. -/
structure Dsh (w : World) (g n : Nat) (xs : List Nat) (b i r : Nat) (wr : World) : Prop where
  qs : ∃ qs, qs.length + i = n ∧ val (xs.drop i) = val qs * b + r ∧ Row wr g (List.replicate i 0 ++ qs)
  rb : r < b
  t : Turn w wr g
theorem Dsh.drewN {w : World} {g n : Nat} {xs : List Nat} {b i r : Nat} {wr : World} (h : Dsh w g n xs b i r wr) (m : Nat) : Dsh w g n xs b i r (wr.drewN m) := by
  obtain ⟨qs, a, c, R⟩ := h.qs
  exact ⟨⟨qs, a, c, R.drewN m⟩, h.rb, h.t.drewN m⟩
theorem dsh_step {N Q b r B' x T : Nat} (h : N = Q * b + r) (ht : T = r * B' + x) : x + B' * N = (T / b + B' * Q) * b + T % b := by
  have e := Nat.div_add_mod T b
  rw [h, Nat.add_mul, Nat.mul_add, ← Nat.mul_assoc, Nat.mul_comm (T / b) b]
  rw [Nat.mul_comm B' r]
  omega
theorem Dsh.step {w : World} {g n : Nat} {xs : List Nat} {b i r : Nat} {wr : World} (h : Dsh w g n xs b (i + 1) r wr) (hb : b < 4294967296) (hi : i < xs.length) (lx : Lo xs) (hn : i < n) :
    wr.cell? ⟨g, i, none⟩ = some (lv 0) ∧ wr.frozen? ⟨g, i, none⟩ = false ∧
      Dsh w g n xs b i ((r * 4294967296 + xs[i]) % b) (wr.setCell ⟨g, i, none⟩ (lv ((r * 4294967296 + xs[i]) / b))) := by
  obtain ⟨qs, hl, hv, R⟩ := h.qs
  have hr := h.rb
  have hx := lx.at_ i hi
  have hq : (r * 4294967296 + xs[i]) / b < 4294967296 := by
    rw [Nat.div_lt_iff_lt_mul (by omega)]
    have : (r + 1) * 4294967296 ≤ b * 4294967296 := Nat.mul_le_mul_right _ hr
    rw [Nat.mul_comm b] at this
    omega
  have e0 : List.replicate (i + 1) 0 ++ qs = List.replicate i 0 ++ (0 :: qs) := by
    rw [List.replicate_succ', List.append_assoc]; rfl
  rw [e0] at R
  refine ⟨?_, R.melt _, ⟨((r * 4294967296 + xs[i]) / b) :: qs, by simp; omega, ?_, ?_⟩, Nat.mod_lt _ (by omega), h.t.setCell _ _⟩
  · exact R.cell' (by rw [List.getElem?_append_right (by simp)]; simp)
  · rw [val_drop xs i hi, val_cons]
    exact dsh_step hv (by rw [B_eq])
  · have := R.set_ i ((r * 4294967296 + xs[i]) / b) hq
    rwa [List.set_append_right _ _ (by simp), List.length_replicate, Nat.sub_self, List.set_cons_zero] at this

set_option maxHeartbeats 2000000 in
set_option maxRecDepth 100000 in
theorem divShort_at {A : Option Addr} {n c b : Nat} {xs : List Nat} {w : World} (ha : Lim w A n c xs) (hn : n ≤ 1000) (b0 : 0 < b) (bb : b < 4294967296) :
    Calls Tryd.prog 65 #[.slice A n c, lv b] w fun e w' => RetQ2 (val xs / b) (val xs % b) w e w' := by
  have hmk := make_u32 n (by omega)
  have hl := ha.len
  have S0 : Dsh (w.alloc (zrow n)) w.heap.size n xs b n 0 (w.alloc (zrow n)) := ⟨⟨[], by simp, by rw [List.drop_of_length_le (by omega), val_nil, Nat.zero_mul], by simpa using Row.zeros w n⟩, b0, Turn.refl _ _⟩
  have LA := Lib.hid (ha.alloc (zrow n))
  have NA := Lib.hid ha.new_ne
  have LX := Lib.hid ha.lo
  have hBl : Below w.heap.size w (w.alloc (zrow n)) := (Below.refl _ _).alloc (Nat.le_refl _) _
  have HL := Lib.hid hl
  clear ha hl
  go_enter Tryd.func65, Tryd.ntmps65
  go_wp2_with fail
  generalize w.alloc (zrow n) = wa at *
  generalize hg : w.heap.size = g at *
  have HG := Lib.hid hg
  clear hg
  go_loopg [7, 8] n (fun q s7 s8 wr => ∃ r, q ≤ n ∧ s8 = .int .i64 ((q : Int) - 1) ∧ s7 = lv r ∧ Dsh wa g n xs b q r wr)
  case atStart => exact ⟨0, Nat.le_refl _, rfl, rfl, S0⟩
  case round =>
    clear S0
    obtain ⟨r, hq, rfl, rfl, S⟩ := hrel
    by_cases hz : gk = 0
    · subst hz
      have ek : ((0 : Nat) : Int) - 1 = -1 := by omega
      rw [ek]
      clear ek
      obtain ⟨qs, ql, qv, R⟩ := S.qs
      rw [List.drop_zero] at qv
      have hr := S.rb
      have e1 : val xs / b = val qs ∧ val xs % b = r := by
        refine (Nat.div_mod_unique b0).2 ⟨?_, hr⟩
        rw [qv, Nat.mul_comm, Nat.add_comm]
      have T := hBl.trans (S.t.below (Nat.le_refl _))
      have TR := trim_at (R.lim (o := 0) (n := n) (c := n) (by simp; omega) (Nat.le_refl _) (by omega))
      unfold RetA at TR
      rw [List.drop_zero, List.take_of_length_le (by simp; omega), List.replicate_zero, List.nil_append, ← e1.1] at TR
      have TR := Lib.hid TR
      have E1 := Lib.hid e1
      clear R S qv ql hq e1
      go_wp2_with fail
      refine TR.out.mono ?_
      rintro e w2 ⟨A2, n2, c2, rfl, L2, H2, rfl⟩
      go_wp2_with fail
      go_ret2
      exact ⟨_, _, _, by rw [E1.out.2]; rfl, L2, fun ad e => (by have e2 := H2 ad e; injection e2 with e2; rw [HG.out, ← e2]), by rw [HG.out]; exact T⟩
    · obtain ⟨k, rfl⟩ : ∃ k, gk = k + 1 := ⟨gk - 1, by omega⟩
      have ek : ((k + 1 : Nat) : Int) - 1 = (k : Int) := by omega
      rw [ek]
      have kx : k < xs.length := by rw [HL.out]; omega
      obtain ⟨ad, rfl, c1⟩ := (turn_lim S.t LA.out NA.out).at_ k kx
      obtain ⟨c3, f3, ST⟩ := S.step bb kx LX.out (by omega)
      have ST := Lib.hid ST
      have hx := LX.out.at_ k kx
      have KD := Lib.hid (div32 r xs[k] b S.rb hx bb)
      generalize xs[k] = x at *
      generalize (r * 4294967296 + x) / b = v at *
      generalize (r * 4294967296 + x) % b = r2 at *
      have il0 : (0 : Int) ≤ k := by omega
      have il : (k : Int) < n := by omega
      clear S ek
      go_wp2_with fail
      refine (KD.out _).mono ?_
      rintro e w1 ⟨rfl, m, rfl⟩
      go_wp2_with fail
      go_roundg k
      case measure => omega
      case rel =>
        go_light
        exact ⟨r2, by omega, rfl, rfl, ST.out.drewN m⟩
theorem divShort_any {A : Option Addr} {n c b : Nat} {xs : List Nat} {w : World} (ha : Lim w A n c xs) (hn : n ≤ 1000) (b0 : 0 < b) (bb : b < 4294967296) :
    Calls Tryd.prog 65 #[.slice A n c, lv b] w fun e w' => RetQ (val xs / b) (val xs % b) w e w' :=
  (divShort_at ha hn b0 bb).mono fun _ _ ⟨A', n', c', h1, h2, _, h4⟩ => ⟨A', n', c', h1, h2, h4⟩
end Go.Proofs.YthollkngfibgaaaDoor
namespace Go.Proofs.YthollkngfibgaaaDoor
open Go.RowKit
set_option linter.unusedVariables false
set_option linter.unusedSimpArgs false

/-- A new block of n + 1 limbs of the number v. -/
def RetS (n v : Nat) (w : World) (e : Ending) (w' : World) : Prop := ∃ ss, e = .returned (.slice (some ⟨w.heap.size, 0, none⟩) (n + 1) (n + 1)) ∧ ss.length = n + 1 ∧ val ss = v ∧ Row w' w.heap.size ss ∧ Below w.heap.size w w'
/-- What is in the loop of shifted. -/
structure Shf (w : World) (g n : Nat) (xs : List Nat) (s i : Nat) (wr : World) : Prop where
  ss : ∃ ss y, ss.length = i ∧ y < 2 ^ s ∧ val ss + B ^ i * y = val (xs.take i) * 2 ^ s ∧ Row wr g (ss ++ y :: List.replicate (n - i) 0)
  t : Turn w wr g
theorem pow32 {s : Nat} (h : s ≤ 32) : 2 ^ s * 2 ^ (32 - s) = 4294967296 := by rw [← Nat.pow_add, Nat.add_sub_cancel' h]
/-- The lower half of a shifted limb. -/
theorem low_shift (x s : Nat) (h : s ≤ 32) : x * 2 ^ s % 4294967296 = 2 ^ s * (x % 2 ^ (32 - s)) := by
  rw [← pow32 h, Nat.mul_comm x, Nat.mul_mod_mul_left]
theorem or_low (x y s : Nat) (h : s ≤ 32) (hy : y < 2 ^ s) : y ||| (x * 2 ^ s % 4294967296) = y + x * 2 ^ s % 4294967296 := by
  rw [low_shift x s h, Nat.or_comm, Nat.mul_comm, or_apart _ _ _ hy, Nat.add_comm]
theorem or_low_lt (x y s : Nat) (h : s ≤ 32) (hy : y < 2 ^ s) : y + x * 2 ^ s % 4294967296 < 4294967296 := by
  rw [low_shift x s h]
  have e := pow32 h
  have l : x % 2 ^ (32 - s) < 2 ^ (32 - s) := Nat.mod_lt _ (Nat.two_pow_pos _)
  have : 2 ^ s * (x % 2 ^ (32 - s) + 1) ≤ 2 ^ s * 2 ^ (32 - s) := Nat.mul_le_mul_left _ l
  rw [Nat.mul_add, e] at this
  omega
theorem high_shift (x s : Nat) (h : s ≤ 32) (hx : x < 4294967296) : x * 2 ^ s / 4294967296 < 2 ^ s := by
  rw [Nat.div_lt_iff_lt_mul (by decide), Nat.mul_comm]
  exact Nat.mul_lt_mul_of_pos_left hx (Nat.two_pow_pos s)
theorem shl_nat (x s : Nat) (hs : s ≤ 32) (hx : x < 4294967296) : IntKind.u64.wrap ((x : Int) * 2 ^ s) = ((x * 2 ^ s : Nat) : Int) := by
  have e : (x : Int) * 2 ^ s = ((x * 2 ^ s : Nat) : Int) := by rw [Int.natCast_mul, Int.natCast_pow]; rfl
  have k : x * 2 ^ s ≤ 4294967296 * 4294967296 - 1 := by
    have k3 : 2 ^ s ≤ 4294967296 := by rw [← pow32 hs]; exact Nat.le_mul_of_pos_right _ (Nat.two_pow_pos _)
    have : x * 2 ^ s ≤ 4294967295 * 4294967296 := Nat.mul_le_mul (by omega) k3
    omega
  rw [e, IntKind.wrap_u64]
  generalize x * 2 ^ s = q at *
  omega
theorem shl_or (x y s : Nat) (hs : s ≤ 32) (hx : x < 4294967296) (hy : y < 2 ^ s) : bits BinOp.or IntKind.u32 (y : Int) (IntKind.u64.wrap ((x : Int) * 2 ^ s) % 4294967296) = ((y + x * 2 ^ s % 4294967296 : Nat) : Int) := by
  have k3 : 2 ^ s ≤ 4294967296 := by rw [← pow32 hs]; exact Nat.le_mul_of_pos_right _ (Nat.two_pow_pos _)
  rw [shl_nat x s hs hx, ← or_low x y s hs hy, show ((x * 2 ^ s : Nat) : Int) % 4294967296 = ((x * 2 ^ s % 4294967296 : Nat) : Int) from rfl]
  exact u32_or_nat _ _ (by omega) (Nat.mod_lt _ (by decide))
theorem shl_high (x s : Nat) (hs : s ≤ 32) (hx : x < 4294967296) : IntKind.u64.wrap ((x : Int) * 2 ^ s) / 4294967296 % 4294967296 = ((x * 2 ^ s / 4294967296 : Nat) : Int) := by
  have k3 : 2 ^ s ≤ 4294967296 := by rw [← pow32 hs]; exact Nat.le_mul_of_pos_right _ (Nat.two_pow_pos _)
  have k := high_shift x s hs hx
  rw [shl_nat x s hs hx]
  generalize x * 2 ^ s = q at *
  omega
theorem shf_step {P V y S x t : Nat} (h : V + P * y = S) : V + P * (y + t % 4294967296) + P * 4294967296 * (t / 4294967296) = S + P * t := by
  have e2 : t = t % 4294967296 + 4294967296 * (t / 4294967296) := by omega
  have e3 : P * t = P * (t % 4294967296) + P * 4294967296 * (t / 4294967296) := by
    conv => lhs; rw [e2, Nat.mul_add, ← Nat.mul_assoc]
  rw [Nat.mul_add]
  omega
theorem Shf.step {w : World} {g n : Nat} {xs : List Nat} {s i : Nat} {wr : World} (h : Shf w g n xs s i wr) (hs : s ≤ 32) (hi : i < xs.length) (hn : xs.length = n) (lx : Lo xs) :
    ∃ y, y < 2 ^ s ∧ wr.cell? ⟨g, i, none⟩ = some (lv y) ∧ wr.cell? ⟨g, i + 1, none⟩ = some (lv 0) ∧ wr.frozen? ⟨g, i, none⟩ = false ∧ wr.frozen? ⟨g, i + 1, none⟩ = false ∧
      Shf w g n xs s (i + 1) ((wr.setCell ⟨g, i, none⟩ (lv (y + xs[i] * 2 ^ s % 4294967296))).setCell ⟨g, i + 1, none⟩ (lv (xs[i] * 2 ^ s / 4294967296))) := by
  obtain ⟨ss, y, hl, hy, hv, R⟩ := h.ss
  have hx := lx.at_ i hi
  have e0 : List.replicate (n - i) 0 = 0 :: List.replicate (n - (i + 1)) 0 := by
    rw [show n - i = n - (i + 1) + 1 by omega, List.replicate_succ]
  rw [e0] at R
  have k1 := or_low_lt xs[i] y s hs hy
  have k2 := high_shift xs[i] s hs hx
  have k3 : 2 ^ s ≤ 4294967296 := by rw [← pow32 hs]; exact Nat.le_mul_of_pos_right _ (Nat.two_pow_pos _)
  refine ⟨y, hy, R.cell' ?_, R.cell' ?_, R.melt _, R.melt _, ⟨ss ++ [y + xs[i] * 2 ^ s % 4294967296], xs[i] * 2 ^ s / 4294967296, by simp [hl], k2, ?_, ?_⟩, (h.t.setCell _ _).setCell _ _⟩
  · rw [List.getElem?_append_right (by omega), hl, Nat.sub_self]; rfl
  · rw [List.getElem?_append_right (by omega), hl, show i + 1 - i = 1 by omega]; rfl
  · rw [val_snoc, hl, val_take_succ xs i hi, Nat.pow_succ, Nat.add_mul, Nat.mul_assoc (B ^ i) xs[i], show B ^ i * B = B ^ i * 4294967296 by rw [B_eq]]
    exact shf_step (x := 0) hv
  · have R2 := (R.set_ i _ k1).set_ (i + 1) (xs[i] * 2 ^ s / 4294967296) (by omega)
    rw [List.set_append_right _ _ (by omega), hl, Nat.sub_self, List.set_cons_zero, List.set_append_right _ _ (by omega), hl, show i + 1 - i = 0 + 1 by omega, List.set_cons_succ, List.set_cons_zero] at R2
    rw [List.append_assoc]
    exact R2

set_option maxHeartbeats 2000000 in
set_option maxRecDepth 100000 in
theorem shifted_any {A : Option Addr} {n c s : Nat} {xs : List Nat} {w : World} (ha : Lim w A n c xs) (hn : n ≤ 1000) (hs : s < 32) :
    Calls Tryd.prog 97 #[.slice A n c, .int .i64 s] w fun e w' => RetS n (val xs * 2 ^ s) w e w' := by
  have hmk : ∀ W : World, (Instr.makeSlice 28 (.int .i64 ((n : Int) + 1)) (.int .i64 ((n : Int) + 1))).run Tryd.prog W = .ok (.slice (some ⟨W.heap.size, 0, none⟩) (n + 1) (n + 1)) (W.alloc (zrow (n + 1))) := make_u32 (n + 1) (by omega)
  have hl := ha.len
  have S0 : Shf (w.alloc (zrow (n + 1))) w.heap.size n xs s 0 (w.alloc (zrow (n + 1))) := ⟨⟨[], 0, rfl, Nat.two_pow_pos s, by rw [List.take_zero, val_nil, Nat.mul_zero, Nat.zero_mul], by simpa [List.replicate_succ] using Row.zeros w (n + 1)⟩, Turn.refl _ _⟩
  have LA := Lib.hid (ha.alloc (zrow (n + 1)))
  have NA := Lib.hid ha.new_ne
  have LX := Lib.hid ha.lo
  have hBl : Below w.heap.size w (w.alloc (zrow (n + 1))) := (Below.refl _ _).alloc (Nat.le_refl _) _
  have HL := Lib.hid hl
  have s0 : (0 : Int) ≤ s := by omega
  have s1 : (s : Int) < 32 := by omega
  clear ha hl
  go_enter Tryd.func97, Tryd.ntmps97
  go_wp2_with fail
  generalize w.alloc (zrow (n + 1)) = wa at *
  generalize hg : w.heap.size = g at *
  have HG := Lib.hid hg
  clear hg
  go_loopg [15] n (fun q s15 wr => ∃ i, i + q = n ∧ s15 = .int .i64 (i : Int) ∧ Shf wa g n xs s i wr)
  case atStart => exact ⟨0, by omega, rfl, S0⟩
  case round =>
    clear S0
    obtain ⟨i, hq, rfl, S⟩ := hrel
    have HQ := Lib.hid hq
    by_cases lt : i < n
    · have il : (i : Int) < n := by omega
      have il0 : (0 : Int) ≤ i := by omega
      clear hq
      have ix : i < xs.length := by rw [HL.out]; omega
      obtain ⟨ad, rfl, c1⟩ := (turn_lim S.t LA.out NA.out).at_ i ix
      obtain ⟨y, hy, c2, c3, f2, f3, ST⟩ := S.step (by omega) ix HL.out LX.out
      have ST := Lib.hid ST
      have hx := LX.out.at_ i ix
      generalize xs[i] = x at *
      have HYb := Lib.hid hy
      clear S hy
      go_wp2_with fail
      go_roundg (gk - 1)
      case measure => have := HQ.out; omega
      case rel =>
        go_light
        refine ⟨i + 1, by have := HQ.out; omega, by go_num, ?_⟩
        rw [shl_or x y s (by omega) hx HYb.out, shl_high x s (by omega) hx]
        exact ST.out
    · obtain rfl : n = i := by omega
      have il : ¬ (n : Int) < n := by omega
      obtain ⟨ss, y, hl, hy, hv, R⟩ := S.ss
      rw [Nat.sub_self, List.replicate_zero] at R
      rw [List.take_of_length_le (by rw [HL.out]; exact Nat.le_refl _)] at hv
      have T := hBl.trans (S.t.below (Nat.le_refl _))
      have EV : Hid (val (ss ++ [y]) = val xs * 2 ^ s) := by unfold Hid; rw [val_snoc, hl, hv]
      have R := Lib.hid R
      have hl := Lib.hid hl
      clear S hq HQ hv hy
      go_wp2_with fail
      go_ret
      exact ⟨ss ++ [y], by rw [HG.out]; rfl, by simp [hl.out], EV.out, by rw [HG.out]; exact R.out, by rw [HG.out]; exact T⟩

/-- What is in the loop of shiftedBack. -/
structure Shb (w : World) (g n : Nat) (xs : List Nat) (s i : Nat) (wr : World) : Prop where
  ss : ∃ ss, ss.length + i = n ∧ val ss = val (xs.drop i) / 2 ^ s ∧ Row wr g (List.replicate i 0 ++ ss)
  t : Turn w wr g
theorem shr_cast (t s : Nat) : (t : Int) / 2 ^ s % 4294967296 = ((t / 2 ^ s % 4294967296 : Nat) : Int) := by
  have e : (2 : Int) ^ s = ((2 ^ s : Nat) : Int) := by rw [Int.natCast_pow]; rfl
  rw [e]
  rfl
theorem shb_math (x N s : Nat) (hs : s ≤ 32) (hx : x < 4294967296) : ((N % 4294967296 * 4294967296 + x) / 2 ^ s) % 4294967296 + 4294967296 * (N / 2 ^ s) = (x + 4294967296 * N) / 2 ^ s := by
  have e := pow32 hs
  have p := Nat.two_pow_pos s
  obtain ⟨r, hr⟩ : ∃ r, N % 2 ^ s = r := ⟨_, rfl⟩
  have hr2 : r < 2 ^ s := by rw [← hr]; exact Nat.mod_lt _ p
  have eN := Nat.div_add_mod N (2 ^ s)
  rw [hr] at eN
  have k1 : (x + 4294967296 * N) / 2 ^ s = 4294967296 * (N / 2 ^ s) + (x + 4294967296 * r) / 2 ^ s := by
    conv => lhs; rw [← eN, Nat.mul_add, ← Nat.add_assoc, Nat.add_right_comm, Nat.mul_left_comm, Nat.add_mul_div_left _ _ p, Nat.add_comm]
  have k2 : (x + 4294967296 * r) / 2 ^ s < 4294967296 := by
    rw [Nat.div_lt_iff_lt_mul p]
    have : 4294967296 * (r + 1) ≤ 4294967296 * 2 ^ s := Nat.mul_le_mul_left _ hr2
    omega
  have k3 : N % 4294967296 = r + 2 ^ s * ((N % 4294967296) / 2 ^ s) := by
    have a := Nat.div_add_mod (N % 4294967296) (2 ^ s)
    have b : N % 4294967296 % 2 ^ s = r := by
      rw [← e, Nat.mod_mul_right_mod, hr]
    omega
  have k4 : (N % 4294967296 * 4294967296 + x) / 2 ^ s = (x + 4294967296 * r) / 2 ^ s + 4294967296 * ((N % 4294967296) / 2 ^ s) := by
    generalize N % 4294967296 / 2 ^ s = m at *
    rw [k3, Nat.add_mul, Nat.mul_assoc, Nat.add_right_comm, Nat.add_mul_div_left _ _ p, Nat.mul_comm m, Nat.mul_comm r, Nat.add_comm x]
  rw [k4, k1, Nat.add_mul_mod_self_left, Nat.mod_eq_of_lt k2, Nat.add_comm]
theorem Shb.step {w : World} {g n : Nat} {xs : List Nat} {s i : Nat} {wr : World} (h : Shb w g n xs s (i + 1) wr) (hs : s ≤ 32) (hi : i < xs.length) (lx : Lo xs) (u : Nat) (hu : u % 4294967296 = val (xs.drop (i + 1)) % 4294967296) :
    wr.cell? ⟨g, i, none⟩ = some (lv 0) ∧ wr.frozen? ⟨g, i, none⟩ = false ∧
      Shb w g n xs s i (wr.setCell ⟨g, i, none⟩ (lv ((u % 4294967296 * 4294967296 + xs[i]) / 2 ^ s % 4294967296))) ∧ (u % 4294967296 * 4294967296 + xs[i]) % 4294967296 = val (xs.drop i) % 4294967296 := by
  obtain ⟨ss, hl, hv, R⟩ := h.ss
  have hx := lx.at_ i hi
  have e0 : List.replicate (i + 1) 0 ++ ss = List.replicate i 0 ++ (0 :: ss) := by
    rw [List.replicate_succ', List.append_assoc]; rfl
  rw [e0] at R
  have e1 := val_drop xs i hi
  rw [B_eq] at e1
  refine ⟨R.cell' ?_, R.melt _, ⟨⟨((u % 4294967296 * 4294967296 + xs[i]) / 2 ^ s % 4294967296) :: ss, by simp; omega, ?_, ?_⟩, h.t.setCell _ _⟩, ?_⟩
  · rw [List.getElem?_append_right (by simp)]; simp
  · rw [val_cons, hv, e1, B_eq, hu]
    exact shb_math xs[i] (val (xs.drop (i + 1))) s hs hx
  · have := R.set_ i ((u % 4294967296 * 4294967296 + xs[i]) / 2 ^ s % 4294967296) (Nat.mod_lt _ (by decide))
    rwa [List.set_append_right _ _ (by simp), List.length_replicate, Nat.sub_self, List.set_cons_zero] at this
  · rw [e1]; omega

set_option maxHeartbeats 2000000 in
set_option maxRecDepth 100000 in
theorem shiftedBack_any {A : Option Addr} {n c s : Nat} {xs : List Nat} {w : World} (ha : Lim w A n c xs) (hn : n ≤ 1000) (hs : s < 32) :
    Calls Tryd.prog 99 #[.slice A n c, .int .i64 s] w fun e w' => RetN (val xs / 2 ^ s) w e w' := by
  have hmk := make_u32 n (by omega)
  have hl := ha.len
  have S0 : Shb (w.alloc (zrow n)) w.heap.size n xs s n (w.alloc (zrow n)) := ⟨⟨[], by simp, by rw [List.drop_of_length_le (by omega), val_nil, Nat.zero_div], by simpa using Row.zeros w n⟩, Turn.refl _ _⟩
  have U0 : Hid (0 % 4294967296 = val (xs.drop n) % 4294967296) := by unfold Hid; rw [List.drop_of_length_le (by omega), val_nil]
  have LA := Lib.hid (ha.alloc (zrow n))
  have NA := Lib.hid ha.new_ne
  have LX := Lib.hid ha.lo
  have hBl : Below w.heap.size w (w.alloc (zrow n)) := (Below.refl _ _).alloc (Nat.le_refl _) _
  have HL := Lib.hid hl
  have s0 : (0 : Int) ≤ s := by omega
  have s1 : (s : Int) < 32 := by omega
  clear ha hl
  go_enter Tryd.func99, Tryd.ntmps99
  go_wp2_with fail
  generalize w.alloc (zrow n) = wa at *
  generalize hg : w.heap.size = g at *
  have HG := Lib.hid hg
  clear hg
  go_loopg [6, 7] n (fun q s6 s7 wr => ∃ u : Nat, q ≤ n ∧ u < 18446744073709551616 ∧ s7 = .int .i64 ((q : Int) - 1) ∧ s6 = .int .u64 (u : Int) ∧ Hid (u % 4294967296 = val (xs.drop q) % 4294967296) ∧ Shb wa g n xs s q wr)
  case atStart => exact ⟨0, Nat.le_refl _, by decide, rfl, rfl, U0, S0⟩
  case round =>
    clear S0 U0
    obtain ⟨u, hq, ub, rfl, rfl, U, S⟩ := hrel
    by_cases hz : gk = 0
    · subst hz
      have ek : ((0 : Nat) : Int) - 1 = -1 := by omega
      rw [ek]
      clear ek
      obtain ⟨ss, hl, hv, R⟩ := S.ss
      rw [List.drop_zero] at hv
      have T := hBl.trans (S.t.below (Nat.le_refl _))
      have TR := trim_any (R.lim (o := 0) (n := n) (c := n) (by simp; omega) (Nat.le_refl _) (by omega))
      rw [List.drop_zero, List.take_of_length_le (by simp; omega), List.replicate_zero, List.nil_append, hv] at TR
      have TR := Lib.hid TR
      clear R S hv hl hq
      go_wp2_with fail
      refine TR.out.mono ?_
      rintro e w2 ⟨A2, n2, c2, rfl, L2, rfl⟩
      go_wp2_with fail
      go_ret
      exact ⟨_, _, _, rfl, L2, by rw [HG.out]; exact T⟩
    · obtain ⟨k, rfl⟩ : ∃ k, gk = k + 1 := ⟨gk - 1, by omega⟩
      have ek : ((k + 1 : Nat) : Int) - 1 = (k : Int) := by omega
      rw [ek]
      have kx : k < xs.length := by rw [HL.out]; omega
      obtain ⟨ad, rfl, c1⟩ := (turn_lim S.t LA.out NA.out).at_ k kx
      obtain ⟨c3, f3, ST, U2⟩ := S.step (by omega) kx LX.out u U.out
      have ST := Lib.hid ST
      have U2 := Lib.hid U2
      have hx := LX.out.at_ k kx
      generalize xs[k] = x at *
      have il0 : (0 : Int) ≤ k := by omega
      have il : (k : Int) < n := by omega
      have E1 : Hid (bits BinOp.or IntKind.u64 (IntKind.u64.wrap ((u : Int) * 4294967296)) (x : Int) = ((u % 4294967296 * 4294967296 + x : Nat) : Int)) := by
        unfold Hid
        have e : IntKind.u64.wrap ((u : Int) * 4294967296) = ((u % 4294967296 : Nat) : Int) * 4294967296 := by rw [IntKind.wrap_u64]; omega
        rw [e, u64_or_up _ _ (Nat.mod_lt _ (by decide)) hx]
        omega
      clear S ek
      go_wp2_with fail
      go_roundg k
      case measure => omega
      case rel =>
        go_light
        rw [E1.out, shr_cast]
        exact ⟨_, by omega, by omega, rfl, rfl, U2, ST.out⟩
end Go.Proofs.YthollkngfibgaaaDoor
namespace Go.Proofs.YthollkngfibgaaaDoor
open Go.RowKit
set_option linter.unusedVariables false
set_option linter.unusedSimpArgs false

/-- What is in the loop of takeTimes. -/
structure Tak (w : World) (g o : Nat) (zs ys : List Nat) (f i k b : Nat) (wr : World) : Prop where
  ss : ∃ ss, ss.length = i ∧ Lo ss ∧ val ss + val (ys.take i) * f = val ((zs.drop o).take i) + B ^ i * (k + b) ∧ Row wr g (zs.take o ++ ss ++ zs.drop (o + i))
  kb : k < 4294967296
  bb : b ≤ 1
  t : Turn w wr g
theorem Tak.drew {w : World} {g o : Nat} {zs ys : List Nat} {f i k b : Nat} {wr : World} (h : Tak w g o zs ys f i k b wr) : Tak w g o zs ys f i k b wr.drew := by
  obtain ⟨ss, a, c, d, r⟩ := h.ss
  exact ⟨⟨ss, a, c, d, r.drew⟩, h.kb, h.bb, h.t.drew⟩
theorem tak_step {P V Y Z f x k b z T d b2 : Nat} (h : V + Y * f = Z + P * (k + b)) (ht : T = x * f + k) (hz : z + 4294967296 * b2 = d + T % 4294967296 + b) :
    V + P * d + (Y + P * x) * f = Z + P * z + P * 4294967296 * (T / 4294967296 + b2) := by
  have e : k + b + d + x * f = z + 4294967296 * (T / 4294967296 + b2) := by omega
  have e2 : P * (k + b) + P * d + P * (x * f) = P * z + P * 4294967296 * (T / 4294967296 + b2) := by
    rw [← Nat.mul_add, ← Nat.mul_add, e, Nat.mul_add, ← Nat.mul_assoc]
  rw [Nat.add_mul, Nat.mul_assoc]
  omega
theorem Tak.step {w : World} {g o : Nat} {zs ys : List Nat} {f i k b : Nat} {wr : World} (h : Tak w g o zs ys f i k b wr) (x : Nat) (hx : x < 4294967296) (hf : f < 4294967296)
    (ex : val (ys.take (i + 1)) = val (ys.take i) + B ^ i * x) (hz : o + i < zs.length) (lz : Lo zs) :
    wr.cell? ⟨g, o + i, none⟩ = some (lv zs[o + i]) ∧ wr.frozen? ⟨g, o + i, none⟩ = false ∧
    Tak w g o zs ys f (i + 1) ((x * f + k) / 4294967296) (bor zs[o + i] ((x * f + k) % 4294967296 + b)) (wr.setCell ⟨g, o + i, none⟩ (lv ((zs[o + i] + 8589934592 - (x * f + k) % 4294967296 - b) % 4294967296))) := by
  obtain ⟨ss, hl, lo, hv, r⟩ := h.ss
  have hk := h.kb
  have hb := h.bb
  have hzz := lz.at_ (o + i) hz
  have hxf : x * f ≤ 4294967295 * 4294967295 := Nat.mul_le_mul (by omega) (by omega)
  refine ⟨r.cell' (part_at zs ss o i hz hl), r.melt _, ⟨ss ++ [(zs[o + i] + 8589934592 - (x * f + k) % 4294967296 - b) % 4294967296], by simp [hl], lo.append (.cons (Nat.mod_lt _ (by decide)) .nil), ?_, ?_⟩, ?_, bor_le _ _, h.t.setCell _ _⟩
  · have hi : i < (zs.drop o).length := by simp; omega
    have e2 := val_take_succ (zs.drop o) i hi
    rw [List.getElem_drop] at e2
    rw [val_snoc, hl, ex, e2, Nat.pow_succ, show B ^ i * B = B ^ i * 4294967296 by rw [B_eq]]
    exact tak_step hv rfl (dif_limb _ _ _ hzz (Nat.mod_lt _ (by decide)) hb)
  · have := r.set_ (o + i) ((zs[o + i] + 8589934592 - (x * f + k) % 4294967296 - b) % 4294967296) (Nat.mod_lt _ (by decide))
    rwa [set_part zs ss _ o i hz hl] at this
  · generalize x * f = q at *
    omega
/-- What takeTimes leaves. -/
def RetT (w : World) (g o : Nat) (zs ys : List Nat) (f m : Nat) (e : Ending) (w' : World) : Prop := ∃ b : Nat, e = .returned (.bool ((b : Int) != 0)) ∧ Tak w g o zs ys f (m + 1) 0 b w'
theorem cast_div2 (x f k : Nat) : ((x : Int) * (f : Int) + (k : Int)) / 4294967296 = (((x * f + k) / 4294967296 : Nat) : Int) := by
  rw [← Int.natCast_mul]; generalize x * f = q; omega
theorem cast_mod2 (x f k : Nat) : ((x : Int) * (f : Int) + (k : Int)) % 4294967296 = (((x * f + k) % 4294967296 : Nat) : Int) := by
  rw [← Int.natCast_mul]; generalize x * f = q; omega

set_option maxHeartbeats 2000000 in
set_option maxRecDepth 100000 in
theorem takeTimes_any {A : Option Addr} {g o c m cb f : Nat} {zs ys : List Nat} {w : World} (hr : Row w g zs) (hy : Lim w A m cb ys) (hz : o + m < zs.length) (hm : m ≤ 1000) (hne : ∀ ad, A = some ad → 0 < m → ad.block ≠ g) (hf : f < 4294967296) :
    Calls Tryd.prog 103 #[.slice (some ⟨g, o, none⟩) (m + 1) c, .slice A m cb, .int .u64 f] w fun e w' => RetT w g o zs ys f m e w' := by
  have S0 : Tak w g o zs ys f 0 0 0 w := ⟨⟨[], rfl, .nil, by rw [List.take_zero, List.take_zero, val_nil, Nat.mul_zero, Nat.zero_mul], by simpa using hr⟩, by omega, by omega, Turn.refl _ _⟩
  have HY := Lib.hid hy; have HNE := Lib.hid hne
  have LZ := Lib.hid hr.lo
  have EY := Lib.hid hy.len
  clear hr hy hne
  go_enter Tryd.func103, Tryd.ntmps103
  go_wp2_with fail
  go_loopg [7, 8, 14] m (fun q s7 s8 s14 wr => ∃ (i k : Nat) (b : Nat), i + q = m ∧ s14 = .int .i64 (i : Int) ∧ s7 = .int .u64 (k : Int) ∧ s8 = lv b ∧ Tak w g o zs ys f i k b wr)
  case atStart => exact ⟨0, 0, 0, by omega, rfl, rfl, rfl, S0⟩
  case round =>
    clear S0
    obtain ⟨i, k, b, hq, rfl, rfl, rfl, S⟩ := hrel
    have HQ := Lib.hid hq
    have bk := S.kb
    have bb := S.bb
    by_cases lt : i < m
    · clear hq
      have il : (i : Int) < m := by omega
      have il1 : (i : Int) < (m : Int) + 1 := by omega
      have il0 : (0 : Int) ≤ i := by omega
      have i2 : i < ys.length := by rw [EY.out]; omega
      obtain ⟨ad, rfl, c2⟩ := (turn_lim S.t HY.out HNE.out).at_ i i2
      have bx := HY.out.lo.at_ i i2
      obtain ⟨c3, f3, ST⟩ := S.step ys[i] bx hf (val_take_succ ys i i2) (by omega) LZ.out
      have ST := Lib.hid ST
      have bz := LZ.out.at_ (o + i) (by omega)
      generalize ys[i] = x at *
      generalize zs[o + i]'(by omega) = z at *
      have hxy : x * f ≤ 4294967295 * 4294967295 := Nat.mul_le_mul (by omega) (by omega)
      have exy : ((x * f : Nat) : Int) = (x : Int) * (f : Int) := Int.natCast_mul _ _
      have hxy1 : (x : Int) * (f : Int) ≤ 18446744065119617025 := by omega
      have hxy0 : 0 ≤ (x : Int) * (f : Int) := by omega
      have KS := Lib.hid (sub32 z ((x * f + k) % 4294967296) b bz (Nat.mod_lt _ (by decide)) bb)
      have E1 := Lib.hid (cast_div2 x f k)
      have E2 := Lib.hid (cast_mod2 x f k)
      clear S exy hxy
      go_wp2_with fail
      rw [E2.out]
      refine (KS.out _).mono ?_
      rintro e w1 ⟨rfl, rfl⟩
      generalize (z + 8589934592 - (x * f + k) % 4294967296 - b) % 4294967296 = v at *
      generalize bor z ((x * f + k) % 4294967296 + b) = b2 at *
      go_wp2_with fail
      go_roundg (gk - 1)
      case measure => have := HQ.out; omega
      case rel =>
        go_light
        rw [E1.out]
        exact ⟨i + 1, _, _, by have := HQ.out; omega, by go_num, rfl, rfl, ST.out⟩
    · obtain rfl : m = i := by omega
      have il : ¬ (m : Int) < m := by omega
      obtain ⟨c3, f3, ST⟩ := S.step 0 (by decide) hf (by rw [List.take_of_length_le (by rw [EY.out]; omega), List.take_of_length_le (by rw [EY.out]; omega), Nat.mul_zero, Nat.add_zero]) hz LZ.out
      rw [Nat.zero_mul, Nat.zero_add, Nat.div_eq_of_lt bk, Nat.mod_eq_of_lt bk] at ST
      have ST := Lib.hid ST
      have bz := LZ.out.at_ (o + m) hz
      generalize zs[o + m]'hz = z at *
      have KS := Lib.hid (sub32 z k b bz bk bb)
      generalize (z + 8589934592 - k - b) % 4294967296 = v at *
      generalize bor z (k + b) = b2 at *
      clear S hq HQ
      go_wp2_with fail
      refine (KS.out _).mono ?_
      rintro e w1 ⟨rfl, rfl⟩
      go_wp2_with fail
      go_ret
      exact ⟨b2, rfl, ST.out⟩
end Go.Proofs.YthollkngfibgaaaDoor
namespace Go.Proofs.YthollkngfibgaaaDoor
open Go.RowKit
set_option linter.unusedVariables false
set_option linter.unusedSimpArgs false

theorem guess_ge {P U V lu lv u v q : Nat} (hU : U = lu + P * u) (hV : V = lv + P * v) (hl : lu < P) (hq : q * V ≤ U) : q * v ≤ u := by
  apply Decidable.byContradiction
  intro h
  have h1 : u + 1 ≤ q * v := by omega
  have h2 : P * (u + 1) ≤ P * (q * v) := Nat.mul_le_mul_left _ h1
  have h3 : P * (q * v) ≤ q * V := by
    rw [hV, Nat.mul_add, ← Nat.mul_left_comm]
    omega
  rw [Nat.mul_add] at h2
  omega
/-- What is in the loop of takeOut. -/
structure Out (w : World) (g o : Nat) (zs : List Nat) (m U V G : Nat) (d : Bool) (wr : World) : Prop where
  ss : ∃ ss, ss.length = m + 1 ∧ Lo ss ∧ val ss + V * G = U + (if d = true then B ^ (m + 1) else 0) ∧ Row wr g (zs.take o ++ ss ++ zs.drop (o + (m + 1)))
  ge : U / V ≤ G
  lt : G < 4294967296
  t : Turn w wr g
/-- What takeOut leaves. -/
def RetO (w : World) (g o : Nat) (zs : List Nat) (m U V : Nat) (e : Ending) (w' : World) : Prop := ∃ ss, e = .returned (lv (U / V)) ∧ ss.length = m + 1 ∧ val ss = U % V ∧ Row w' g (zs.take o ++ ss ++ zs.drop (o + (m + 1))) ∧ Turn w w' g

theorem Out.done {w : World} {g o : Nat} {zs : List Nat} {m U V G : Nat} {wr : World} (h : Out w g o zs m U V G false wr) (hV : 0 < V) : G = U / V ∧ ∃ ss, ss.length = m + 1 ∧ val ss = U % V ∧ Row wr g (zs.take o ++ ss ++ zs.drop (o + (m + 1))) := by
  obtain ⟨ss, hl, lo, hv, r⟩ := h.ss
  have hge := h.ge
  simp only [Bool.false_eq_true, if_false, Nat.add_zero] at hv
  have h1 : G ≤ U / V := (Nat.le_div_iff_mul_le hV).2 (by rw [Nat.mul_comm]; omega)
  have e : G = U / V := by omega
  refine ⟨e, ss, hl, ?_, r⟩
  have := Nat.div_add_mod U V
  rw [← e] at this
  omega
theorem Out.pos {w : World} {g o : Nat} {zs : List Nat} {m U V G : Nat} {wr : World} (h : Out w g o zs m U V G true wr) (hV : 0 < V) : U / V < G := by
  obtain ⟨ss, hl, lo, hv, r⟩ := h.ss
  have l := val_lt lo
  rw [hl] at l
  simp only [if_true] at hv
  rw [Nat.div_lt_iff_lt_mul hV, Nat.mul_comm]
  omega
theorem take_all (zs ss : List Nat) (o m : Nat) (ho : o ≤ zs.length) (hl : ss.length = m + 1) : (zs.take o ++ ss ++ zs.drop (o + (m + 1))).take o = zs.take o ∧ (zs.take o ++ ss ++ zs.drop (o + (m + 1))).drop (o + m) = ss.drop m ++ zs.drop (o + (m + 1)) ∧ ((zs.take o ++ ss ++ zs.drop (o + (m + 1))).drop o).take m = ss.take m := by
  have lt : (zs.take o).length = o := by simp; omega
  refine ⟨?_, ?_, ?_⟩
  · rw [List.append_assoc, List.take_append_of_le_length (by omega), List.take_of_length_le (by omega)]
  · rw [List.append_assoc, List.drop_append, List.drop_of_length_le (by omega), List.nil_append, lt, Nat.add_sub_cancel_left, List.drop_append_of_le_length (by omega)]
  · rw [List.append_assoc, List.drop_append, List.drop_of_length_le (by omega), List.nil_append, lt, Nat.sub_self, List.drop_zero, List.take_append_of_le_length (by omega)]
theorem beq_dec (k : Nat) : ((k : Int) == 0) = decide (k = 0) := by rw [Bool.eq_iff_iff]; simp
theorem carry_le {z k : Nat} (h : z < 4294967296) (hk : k ≤ 1) : (z + k) / 4294967296 ≤ 1 := by omega
theorem Out.back {w : World} {g o : Nat} {zs ys : List Nat} {m U V G k : Nat} {wr w1 : World} {ss : List Nat} (h : Out w g o zs m U V G true wr) (hV : 0 < V) (hy : val ys = V) (hyl : ys.length = m) (ho : o + m < zs.length)
    (hl : ss.length = m + 1) (lo : Lo ss) (hv : val ss + V * G = U + B ^ (m + 1))
    (S : Sum wr g o (zs.take o ++ ss ++ zs.drop (o + (m + 1))) (ss.take m) ys m k w1) :
    ∃ z, z < 4294967296 ∧ w1.cell? ⟨g, o + m, none⟩ = some (lv z) ∧ w1.frozen? ⟨g, o + m, none⟩ = false ∧ (z + k) / 4294967296 ≤ 1 ∧
      Out w g o zs m U V (G - 1) (decide ((z + k) / 4294967296 = 0)) (w1.setCell ⟨g, o + m, none⟩ (lv ((z + k) % 4294967296))) := by
  obtain ⟨ts, tl, tlo, tv, tr⟩ := S.ss
  obtain ⟨q1, q2, q3⟩ := take_all zs ss o m (by omega) hl
  rw [q1, q2] at tr
  have hm : m < ss.length := by omega
  have ed : ss.drop m = [ss[m]] := by
    rw [List.drop_eq_getElem_cons hm, List.drop_eq_nil_of_le (show ss.length ≤ m + 1 by omega)]
  rw [ed] at tr
  have k1 := S.k1
  have zb := lo.at_ m hm
  have gp := h.pos hV
  have lth := h.lt
  have lz : (zs.take o).length = o := by simp; omega
  rw [List.take_of_length_le (show (ss.take m).length ≤ m by simp; omega), List.take_of_length_le (show ys.length ≤ m by omega), hy] at tv
  have sv : val ss = val (ss.take m) + B ^ m * ss[m] := by
    have := val_take_succ ss m hm
    rwa [List.take_of_length_le (by omega)] at this
  refine ⟨ss[m], zb, tr.cell' ?_, tr.melt _, carry_le zb k1, ⟨ts ++ [(ss[m] + k) % 4294967296], by simp [tl], tlo.append (.cons (Nat.mod_lt _ (by decide)) .nil), ?_, ?_⟩, Nat.le_sub_one_of_lt gp, Nat.lt_of_le_of_lt (Nat.sub_le _ _) lth, (h.t.trans S.t).setCell _ _⟩
  · rw [List.getElem?_append_right (by simp; omega), List.length_append, lz, tl, Nat.sub_self]; rfl
  · have e2 : ss[m] + k = (ss[m] + k) % 4294967296 + 4294967296 * ((ss[m] + k) / 4294967296) := by omega
    have e3 : B ^ m * (ss[m] + k) = B ^ m * ((ss[m] + k) % 4294967296) + B ^ (m + 1) * ((ss[m] + k) / 4294967296) := by
      conv => lhs; rw [e2, Nat.mul_add, ← Nat.mul_assoc]
      rw [Nat.pow_succ, show B ^ m * B = B ^ m * 4294967296 by rw [B_eq]]
    rw [Nat.mul_add] at e3
    have e4 : V * G = V * (G - 1) + V := by
      conv => lhs; rw [← Nat.sub_add_cancel (show 1 ≤ G from Nat.lt_of_le_of_lt (Nat.zero_le _) gp), Nat.mul_add, Nat.mul_one]
    rw [val_snoc, tl]
    have c : (ss[m] + k) / 4294967296 = 0 ∨ (ss[m] + k) / 4294967296 = 1 := by omega
    rcases c with c | c
    · rw [c, Nat.mul_zero, Nat.add_zero] at e3
      rw [c]
      simp only [decide_true, if_true]
      omega
    · rw [c, Nat.mul_one] at e3
      rw [c]
      simp only [show decide ((1 : Nat) = 0) = false from rfl, Bool.false_eq_true, if_false]
      omega
  · have := tr.set_ (o + m) ((ss[m] + k) % 4294967296) (Nat.mod_lt _ (by decide))
    rw [show zs.take o ++ ts ++ ([ss[m]] ++ zs.drop (o + (m + 1))) = zs.take o ++ ts ++ (ss[m] :: zs.drop (o + (m + 1))) from rfl, set_mid _ _ _ _ o m lz tl] at this
    exact this
/-- What takeTimes leaves is what the loop begins with. -/
theorem Tak.out {w : World} {g o : Nat} {zs ys : List Nat} {f m b U V : Nat} {w1 : World} (h : Tak w g o zs ys f (m + 1) 0 b w1) (hy : val ys = V) (hyl : ys.length = m) (hU : U = val ((zs.drop o).take (m + 1))) (hge : U / V ≤ f) (hf : f < 4294967296) :
    Out w g o zs m U V f ((b : Int) != 0) w1 := by
  obtain ⟨ss, hl, lo, hv, r⟩ := h.ss
  have hb := h.bb
  refine ⟨⟨ss, hl, lo, ?_, r⟩, hge, hf, h.t⟩
  rw [List.take_of_length_le (by omega), hy, ← hU, Nat.zero_add] at hv
  rw [hv]
  have c : b = 0 ∨ b = 1 := by omega
  rcases c with rfl | rfl
  · rw [Nat.mul_zero, if_neg (by decide)]
  · rw [Nat.mul_one, if_pos (by decide)]

theorem top_two (zs : List Nat) (o m : Nat) (hm : 0 < m) (hz : o + m < zs.length) :
    val ((zs.drop o).take (m + 1)) = val ((zs.drop o).take (m - 1)) + B ^ (m - 1) * (zs[o + (m - 1)] + B * zs[o + m]) := by
  have h1 := val_take_succ (zs.drop o) m (by simp; omega)
  have h2 := val_take_succ (zs.drop o) (m - 1) (by simp; omega)
  rw [List.getElem_drop] at h1 h2
  rw [Nat.sub_add_cancel hm] at h2
  have e : B ^ m = B ^ (m - 1) * B := by rw [← Nat.pow_succ]; congr 1; omega
  rw [h1, h2, e, Nat.mul_add, Nat.mul_assoc, Nat.add_assoc]
theorem top_one (ys : List Nat) (m : Nat) (hm : 0 < m) (hy : ys.length = m) : val ys = val (ys.take (m - 1)) + B ^ (m - 1) * ys[m - 1] := by
  have h2 := val_take_succ ys (m - 1) (by omega)
  rw [Nat.sub_add_cancel hm, List.take_of_length_le (by omega)] at h2
  exact h2
theorem guess_ok (zs ys : List Nat) (o m : Nat) (hm : 0 < m) (hz : o + m < zs.length) (lz : Lo zs) (hy : ys.length = m) (hv : 0 < val ys) (hy1 : ys[m - 1] ≠ 0) (hlt : val ((zs.drop (o + 1)).take m) < val ys) :
    val ((zs.drop o).take (m + 1)) / val ys ≤ min ((zs[o + m] * 4294967296 + zs[o + (m - 1)]) / ys[m - 1]) 4294967295 := by
  have hU := top_two zs o m hm hz
  have hV := top_one ys m hm hy
  have hl : val ((zs.drop o).take (m - 1)) < B ^ (m - 1) := by
    have := val_lt ((lz.drop o).take (m - 1))
    rwa [List.length_take, List.length_drop, Nat.min_eq_left (by omega)] at this
  have hq := guess_ge hU hV hl (Nat.div_mul_le_self _ _)
  refine Nat.le_min.2 ⟨?_, ?_⟩
  · rw [Nat.le_div_iff_mul_le (by omega)]
    rw [B_eq] at hq
    omega
  · have e : (zs.drop o).take (m + 1) = zs[o] :: (zs.drop (o + 1)).take m := by
      rw [List.drop_eq_getElem_cons (by omega), List.take_succ_cons]
    have z0 := lz.at_ o (by omega)
    have : val ((zs.drop o).take (m + 1)) < 4294967296 * val ys := by
      rw [e, val_cons, B_eq]
      have : 4294967296 * (val ((zs.drop (o + 1)).take m) + 1) ≤ 4294967296 * val ys := Nat.mul_le_mul_left _ hlt
      omega
    have := (Nat.div_lt_iff_lt_mul hv).2 this
    omega

set_option maxHeartbeats 4000000 in
set_option maxRecDepth 100000 in
theorem takeOut_any {A : Option Addr} {g o c m cb : Nat} {zs ys : List Nat} {w : World} (hr : Row w g zs) (hy : Lim w A m cb ys) (hz : o + m < zs.length) (hm : m ≤ 1000) (hm0 : 0 < m) (hne : ∀ ad, A = some ad → 0 < m → ad.block ≠ g)
    (hv : 0 < val ys) (hy1 : ∀ h : m - 1 < ys.length, ys[m - 1] ≠ 0) (hlt : val ((zs.drop (o + 1)).take m) < val ys) (hc : m + 1 ≤ c) :
    Calls Tryd.prog 98 #[.slice (some ⟨g, o, none⟩) (m + 1) c, .slice A m cb] w fun e w' => RetO w g o zs m (val ((zs.drop o).take (m + 1))) (val ys) e w' := by
  obtain ⟨t, rfl⟩ : ∃ t, m = t + 1 := ⟨m - 1, by omega⟩
  have hyl := hy.len
  have GO := guess_ok zs ys o (t + 1) hm0 hz hr.lo hyl hv (hy1 (by omega)) hlt
  simp only [Nat.add_sub_cancel] at GO
  obtain ⟨ad, rfl⟩ := hy.some_ hm0
  have c1 := hy.cell t (by omega)
  have c2 := hr.cell (o + t) (by omega)
  have c3 := hr.cell (o + (t + 1)) hz
  have b1 := hy.lo.at_ t (by omega)
  have b2 := hr.lo.at_ (o + t) (by omega)
  have b3 := hr.lo.at_ (o + (t + 1)) hz
  have nz := hy1 (by omega)
  simp only [Nat.add_sub_cancel] at nz
  have HR := Lib.hid hr; have HY := Lib.hid hy; have HNE := Lib.hid hne; have HV := Lib.hid hv
  generalize ys[t]'(by omega) = y at *
  generalize zs[o + t]'(by omega) = z0 at *
  generalize zs[o + (t + 1)]'hz = z1 at *
  obtain ⟨U, hU⟩ : ∃ U, val ((zs.drop o).take (t + 1 + 1)) = U := ⟨_, rfl⟩
  obtain ⟨V, hV⟩ : ∃ V, val ys = V := ⟨_, rfl⟩
  rw [hU, hV] at GO ⊢
  have GQ := Lib.hid GO
  clear GO
  have HU := Lib.hid hU; have HVV := Lib.hid hV
  have HYL := Lib.hid hyl
  clear hr hy hne hv hy1 hlt hU hV hyl
  have t0 : (0 : Int) ≤ t := by omega
  have t1 : (t : Int) < (t : Int) + 1 + 1 := by omega
  have t2 : (t : Int) < (t : Int) + 1 := by omega
  have t3 : (t : Int) + 1 < (t : Int) + 1 + 1 := by omega
  have ny : ((y : Int) == 0) = false := by simpa using nz
  have E1 : Hid (min (IntKind.u64.wrap ((bits BinOp.or IntKind.u64 ((z1 : Int) * 4294967296) (z0 : Int)).tdiv (y : Int))) 4294967295 = ((min ((z1 * 4294967296 + z0) / y) 4294967295 : Nat) : Int)) := by
    unfold Hid
    have e2 : ((z1 * 4294967296 + z0 : Nat) : Int) = (z1 : Int) * 4294967296 + (z0 : Int) := by omega
    have k : (z1 * 4294967296 + z0) / y ≤ z1 * 4294967296 + z0 := Nat.div_le_self _ _
    rw [u64_or_up z1 z0 b3 b2, ← e2, ← Int.ofNat_tdiv, IntKind.wrap_u64]
    generalize (z1 * 4294967296 + z0) / y = q at *
    omega
  have fl : min ((z1 * 4294967296 + z0) / y) 4294967295 ≤ 4294967295 := Nat.min_le_right _ _
  go_enter Tryd.func98, Tryd.ntmps98
  go_wp2_with fail
  go_quiet (fail)
  go_wp2_with fail
  rw [E1.out]
  generalize min ((z1 * 4294967296 + z0) / y) 4294967295 = f at *
  have fb : f < 4294967296 := by omega
  clear E1 c1 c2 c3
  refine (takeTimes_any (f := f) (HR.out.drewN nq) (HY.out.drewN nq) hz hm HNE.out fb).mono ?_
  rintro e w1 ⟨b, rfl, T⟩
  have O0 := T.out HVV.out HYL.out HU.out.symm GQ.out fb
  generalize ((b : Int) != 0) = d at *
  have O : Out w g o zs (t + 1) U V f d w1 := ⟨O0.ss, O0.ge, O0.lt, ⟨O0.t.os, O0.t.tape, O0.t.output, O0.t.size, O0.t.block⟩⟩
  clear T fl GQ O0
  go_wp2_with fail
  go_loopg [6, 7, 8] f (fun q s6 s7 _ wr => ∃ d, s6 = .int .u64 (q : Int) ∧ s7 = .bool d ∧ Out w g o zs (t + 1) U V q d wr)
  case atStart => exact ⟨d, rfl, rfl, O⟩
  case round =>
    clear O
    obtain ⟨d, rfl, rfl, O⟩ := hrel
    have hVp : 0 < V := by rw [← HVV.out]; exact HV.out
    have gl := O.lt
    cases d with
    | false =>
      obtain ⟨eG, ss, sl, sv, R⟩ := O.done hVp
      have R := Lib.hid R; have SL := Lib.hid sl; have SV := Lib.hid sv; have EG := Lib.hid eG; have TT := Lib.hid O.t
      clear O sl sv eG
      go_wp2_with fail
      go_ret
      exact ⟨ss, by rw [← EG.out]; rfl, SL.out, SV.out, R.out, TT.out⟩
    | true =>
      have gp := Nat.lt_of_le_of_lt (Nat.zero_le _) (O.pos hVp)
      obtain ⟨ss, sl, slo, sv, R⟩ := O.ss
      simp only [if_true] at sv
      obtain ⟨q1, q2, q3⟩ := take_all zs ss o (t + 1) (by omega) sl
      have hlen : (zs.take o ++ ss ++ zs.drop (o + (t + 1 + 1))).length = zs.length := by simp; omega
      have SRC : Src wr g o (zs.take o ++ ss ++ zs.drop (o + (t + 1 + 1))) (some ⟨g, o, none⟩) (ss.take (t + 1)) := by
        have := Src.same (w := wr) (g := g) (o := o) (n := t + 1) (zs := zs.take o ++ ss ++ zs.drop (o + (t + 1 + 1))) (by omega)
        rwa [q3] at this
      have KA := Lib.hid (addInto_any (ns := t + 1 + 1) (cs := c) (n := t + 1) (c := c) (c' := cb) R SRC (slo.take _) (by simp; omega) (turn_lim O.t HY.out HNE.out) (by omega) (by omega) (Nat.le_refl _) hm HNE.out)
      have BK : Hid (∀ k w2, Sum wr g o (zs.take o ++ ss ++ zs.drop (o + (t + 1 + 1))) (ss.take (t + 1)) ys (t + 1) k w2 → _) := fun k w2 S => O.back hVp HVV.out HYL.out hz sl slo sv S
      have SV := Lib.hid sv
      have gp2 : (1 : Int) ≤ gk := by omega
      have hc1 : (t : Int) + 1 ≤ c := by omega
      clear q1 q2 q3 SRC R O sl slo sv
      go_wp2_with fail
      refine KA.out.mono ?_
      rintro e w2 ⟨k, rfl, S⟩
      have k1 := S.k1
      obtain ⟨z, zb, c4, f4, l4, O2⟩ := BK.out k w2 S
      have O2 := Lib.hid O2
      have KB := Lib.hid (add32 z 0 k zb (by omega) k1)
      rw [Nat.add_zero] at KB
      generalize (z + k) % 4294967296 = v at *
      generalize (z + k) / 4294967296 = k2 at *
      clear S
      have t3 : (t : Int) + 1 < (t : Int) + 1 + 1 := by omega
      go_wp2_with fail
      refine (KB.out _).mono ?_
      rintro e w3 ⟨rfl, rfl⟩
      go_wp2_with fail
      go_roundg (gk - 1)
      case measure => omega
      case rel =>
        go_light
        refine ⟨decide (k2 = 0), congrArg (Value.int .u64) (by omega), congrArg Value.bool (beq_dec k2), O2.out⟩
end Go.Proofs.YthollkngfibgaaaDoor
namespace Go.Proofs.YthollkngfibgaaaDoor

theorem last_zero {ss : List Nat} {m : Nat} (hl : ss.length = m + 1) (h : val ss < B ^ m) : ∃ ws, ss = ws ++ [0] ∧ ws.length = m ∧ val ws = val ss := by
  have hm : m < ss.length := by omega
  have e := val_take_succ ss m hm
  rw [List.take_of_length_le (by omega)] at e
  have z : ss[m] = 0 := by
    apply Decidable.byContradiction
    intro k
    have : B ^ m * 1 ≤ B ^ m * ss[m] := Nat.mul_le_mul_left _ (by omega)
    rw [Nat.mul_one] at this
    omega
  refine ⟨ss.take m, ?_, by simp; omega, ?_⟩
  · have := take_snoc ss m hm
    rw [List.take_of_length_le (by omega), z] at this
    exact this
  · rw [e, z, Nat.mul_zero, Nat.add_zero]
theorem div_scaled {a b Q R p : Nat} (hp : 0 < p) (hb : 0 < b) (h : a * p = Q * (b * p) + R) (hR : R < b * p) : Q = a / b ∧ R / p = a % b := by
  have hbp : 0 < b * p := Nat.mul_pos hb hp
  have e := (Nat.div_mod_unique (a := a * p) (b := b * p) (c := R) (d := Q) hbp).2 ⟨by rw [h, Nat.mul_comm (b * p) Q, Nat.add_comm], hR⟩
  rw [Nat.mul_div_mul_right _ _ hp] at e
  rw [Nat.mul_mod_mul_right] at e
  exact ⟨e.1.symm, by rw [← e.2, Nat.mul_div_cancel _ hp]⟩
theorem dlg_step {N Q R v B' x U : Nat} (h : N = Q * v + R) (hU : U = x + B' * R) : x + B' * N = (U / v + B' * Q) * v + U % v := by
  have e := Nat.div_add_mod U v
  rw [h, Nat.add_mul, Nat.mul_add, ← Nat.mul_assoc, Nat.mul_comm (U / v) v]
  omega
theorem shift_fits {b m k : Nat} (hm : m + 1 = (limbs b).length) (hs : bl ((limbs b)[m]'(by omega)) + k = 32) : b * 2 ^ k < B ^ (m + 1) := by
  have e := bl_limbs (a := b) (k := m) hm
  have l := lt_bl b
  rw [B_pow]
  have : b * 2 ^ k < 2 ^ bl b * 2 ^ k := Nat.mul_lt_mul_of_pos_right l (Nat.two_pow_pos k)
  rw [← Nat.pow_add] at this
  rw [show bl b + k = 32 * (m + 1) by omega] at this
  exact this
theorem shift_ge {b m k : Nat} (hb : b ≠ 0) (hm : m + 1 = ln b) : B ^ m ≤ b * 2 ^ k := by
  have := le_of_ln hb
  rw [← hm, Nat.add_sub_cancel] at this
  exact Nat.le_trans this (Nat.le_mul_of_pos_right _ (Nat.two_pow_pos k))
theorem top_ne {vs : List Nat} {m : Nat} (hl : vs.length = m + 1) (lo : Lo vs) (h : B ^ m ≤ val vs) : vs[m] ≠ 0 := by
  intro z
  have e := val_take_succ vs m (by omega)
  rw [List.take_of_length_le (by omega), z, Nat.mul_zero, Nat.add_zero] at e
  have := val_lt (lo.take m)
  rw [List.length_take, Nat.min_eq_left (by omega)] at this
  omega
/-- The upper limbs of what is divided are below the divisor. -/
theorem start_lt {S : List Nat} {a n d m p v : Nat} (hS : val S = a * p) (ha : a < B ^ n) (hd : d + m = n + 1) (hl : S.length = n + 1) (hm : 0 < m) (hp : 0 < p) (hv : B ^ (m - 1) * p ≤ v) : val (S.drop d) < v := by
  have e := val_split S d (by omega)
  apply Nat.lt_of_lt_of_le _ hv
  apply Decidable.byContradiction
  intro k
  have k1 : B ^ d * (B ^ (m - 1) * p) ≤ B ^ d * val (S.drop d) := Nat.mul_le_mul_left _ (by omega)
  rw [← Nat.mul_assoc, ← Nat.pow_add, show d + (m - 1) = n by omega] at k1
  have k2 : a * p < B ^ n * p := Nat.mul_lt_mul_of_pos_right ha hp
  omega
end Go.Proofs.YthollkngfibgaaaDoor
