/- The walks of From, Of, divShort. -/
import Derived.Test.YtnacokogihanoaaDoorWalkG
namespace Go.Proofs.YtnacokogihanoaaDoor
open Go.RowKit
set_option linter.unusedVariables false
set_option linter.unusedSimpArgs false

theorem Row.new_of (w : World) (xs : List Nat) (vs : Array Value) (h : Lo xs) (e : vs = (xs.map lv).toArray) : Row (w.alloc (.cells vs 37)) w.heap.size xs := by
  subst e; exact Row.new w xs h
theorem four_val (h l : Nat) : val [l % 4294967296, l / 4294967296, h % 4294967296, h / 4294967296] = h * 18446744073709551616 + l := by
  rw [val_cons, val_cons, val_cons, val_cons, val_nil, B_eq]; omega

set_option maxHeartbeats 1000000 in
set_option maxRecDepth 100000 in
theorem from_any (h l : Nat) (hh : h < 18446744073709551616) (hl : l < 18446744073709551616) (w : World) : Calls Tryd.prog 24 #[.agg #[.int .u64 h, .int .u64 l]] w fun e w' => RetN (h * 18446744073709551616 + l) w e w' := by
  have R : Hid (∀ W : World, Row (W.alloc (.cells #[.int .u32 ((l : Int) % 4294967296), .int .u32 ((l : Int) / 4294967296), .int .u32 ((h : Int) % 4294967296), .int .u32 ((h : Int) / 4294967296)] 37)) W.heap.size [l % 4294967296, l / 4294967296, h % 4294967296, h / 4294967296]) := by
    intro W
    refine Row.new_of W _ _ (.cons ?_ (.cons ?_ (.cons ?_ (.cons ?_ .nil)))) ?_
    · omega
    · omega
    · omega
    · omega
    · simp
  have EV := Lib.hid (four_val h l)
  go_enter Tryd.func24, Tryd.ntmps24
  go_wp2_with fail
  have R1 := R.out (w.alloc (.cells #[.int .u64 h, .int .u64 l] 26))
  have hb : Below w.heap.size w ((w.alloc (.cells #[.int .u64 h, .int .u64 l] 26)).alloc (.cells #[.int .u32 ((l : Int) % 4294967296), .int .u32 ((l : Int) / 4294967296), .int .u32 ((h : Int) % 4294967296), .int .u32 ((h : Int) / 4294967296)] 37)) := ((Below.refl _ _).alloc (Nat.le_refl _) _).alloc (by simp) _
  have TR := trim_any (R1.lim (o := 0) (n := 4) (c := 4) (by simp) (Nat.le_refl _) (by omega))
  rw [List.drop_zero, List.take_of_length_le (by simp), EV.out] at TR
  simp only [World.size_alloc] at TR
  refine TR.mono ?_
  rintro e w1 ⟨A1, n1, c1, rfl, L1, rfl⟩
  go_wp2_with fail
  go_ret
  exact ⟨_, _, _, rfl, L1, hb⟩
set_option maxRecDepth 100000 in
theorem of_any (n : Nat) (hn : n < 18446744073709551616) (w : World) : Calls Tryd.prog 23 #[.int .u64 n] w fun e w' => RetN n w e w' := by
  have K := from_any 0 n (by decide) hn
  rw [Nat.zero_mul, Nat.zero_add] at K
  have K := Lib.hid K
  go_enter Tryd.func23, Tryd.ntmps23
  go_wp2_with fail
  refine (K.out _).mono ?_
  rintro e w1 ⟨A1, n1, c1, rfl, L1, B1⟩
  go_wp2_with fail
  go_ret
  exact ⟨_, _, _, rfl, L1, B1⟩

/-- A natural, and a limb. -/
def RetQ (q r : Nat) (w : World) (e : Ending) (w' : World) : Prop := ∃ A n c, e = .returned (.tuple #[.slice A n c, lv r]) ∧ Lim w' A n c (limbs q) ∧ Below w.heap.size w w'
/-- .. and where the natural lies. -/
def RetQ2 (q r : Nat) (w : World) (e : Ending) (w' : World) : Prop := ∃ A n c, e = .returned (.tuple #[.slice A n c, lv r]) ∧ Lim w' A n c (limbs q) ∧ (∀ ad, A = some ad → ad.block = w.heap.size) ∧ Below w.heap.size w w'
/-- What is in the loop of divShort. -/
structure Dsh (w : World) (g n : Nat) (xs : List Nat) (b i r : Nat) (wr : World) : Prop where
  qs : ∃ qs, qs.length + i = n ∧ val (xs.drop i) = val qs * b + r ∧ Row wr g (List.replicate i 0 ++ qs)
  rb : r < b
  t : Turn w wr g
theorem Dsh.drewN {w : World} {g n : Nat} {xs : List Nat} {b i r : Nat} {wr : World} (h : Dsh w g n xs b i r wr) (m : Nat) : Dsh w g n xs b i r (wr.drewN m) := by
  obtain ⟨qs, a, c, R⟩ := h.qs
  exact ⟨⟨qs, a, c, R.drewN m⟩, h.rb, h.t.drewN m⟩
theorem dsh_step {N Q b r B' x T : Nat} (h : N = Q * b + r) (ht : T = r * B' + x) : x + B' * N = (T / b + B' * Q) * b + T % b := by
  have e := Nat.div_add_mod T b
  rw [h, Nat.add_mul, Nat.mul_add, ← Nat.mul_assoc, Nat.mul_comm (T / b) b]
  rw [Nat.mul_comm B' r]
  omega
theorem Dsh.step {w : World} {g n : Nat} {xs : List Nat} {b i r : Nat} {wr : World} (h : Dsh w g n xs b (i + 1) r wr) (hb : b < 4294967296) (hi : i < xs.length) (lx : Lo xs) (hn : i < n) :
    wr.cell? ⟨g, i, none⟩ = some (lv 0) ∧ wr.frozen? ⟨g, i, none⟩ = false ∧
      Dsh w g n xs b i ((r * 4294967296 + xs[i]) % b) (wr.setCell ⟨g, i, none⟩ (lv ((r * 4294967296 + xs[i]) / b))) := by
  obtain ⟨qs, hl, hv, R⟩ := h.qs
  have hr := h.rb
  have hx := lx.at_ i hi
  have hq : (r * 4294967296 + xs[i]) / b < 4294967296 := by
    rw [Nat.div_lt_iff_lt_mul (by omega)]
    have : (r + 1) * 4294967296 ≤ b * 4294967296 := Nat.mul_le_mul_right _ hr
    rw [Nat.mul_comm b] at this
    omega
  have e0 : List.replicate (i + 1) 0 ++ qs = List.replicate i 0 ++ (0 :: qs) := by
    rw [List.replicate_succ', List.append_assoc]; rfl
  rw [e0] at R
  refine ⟨?_, R.melt _, ⟨((r * 4294967296 + xs[i]) / b) :: qs, by simp; omega, ?_, ?_⟩, Nat.mod_lt _ (by omega), h.t.setCell _ _⟩
  · exact R.cell' (by rw [List.getElem?_append_right (by simp)]; simp)
  · rw [val_drop xs i hi, val_cons]
    exact dsh_step hv (by rw [B_eq])
  · have := R.set_ i ((r * 4294967296 + xs[i]) / b) hq
    rwa [List.set_append_right _ _ (by simp), List.length_replicate, Nat.sub_self, List.set_cons_zero] at this

set_option maxHeartbeats 2000000 in
set_option maxRecDepth 100000 in
theorem divShort_at {A : Option Addr} {n c b : Nat} {xs : List Nat} {w : World} (ha : Lim w A n c xs) (hn : n ≤ 1000) (b0 : 0 < b) (bb : b < 4294967296) :
    Calls Tryd.prog 61 #[.slice A n c, lv b] w fun e w' => RetQ2 (val xs / b) (val xs % b) w e w' := by
  have hmk := make_u32 n (by omega)
  have hl := ha.len
  have S0 : Dsh (w.alloc (zrow n)) w.heap.size n xs b n 0 (w.alloc (zrow n)) := ⟨⟨[], by simp, by rw [List.drop_of_length_le (by omega), val_nil, Nat.zero_mul], by simpa using Row.zeros w n⟩, b0, Turn.refl _ _⟩
  have LA := Lib.hid (ha.alloc (zrow n))
  have NA := Lib.hid ha.new_ne
  have LX := Lib.hid ha.lo
  have hBl : Below w.heap.size w (w.alloc (zrow n)) := (Below.refl _ _).alloc (Nat.le_refl _) _
  have HL := Lib.hid hl
  clear ha hl
  go_enter Tryd.func61, Tryd.ntmps61
  go_wp2_with fail
  generalize w.alloc (zrow n) = wa at *
  generalize hg : w.heap.size = g at *
  have HG := Lib.hid hg
  clear hg
  go_loopg [7, 8] n (fun q s7 s8 wr => ∃ r, q ≤ n ∧ s8 = .int .i64 ((q : Int) - 1) ∧ s7 = lv r ∧ Dsh wa g n xs b q r wr)
  case atStart => exact ⟨0, Nat.le_refl _, rfl, rfl, S0⟩
  case round =>
    clear S0
    obtain ⟨r, hq, rfl, rfl, S⟩ := hrel
    by_cases hz : gk = 0
    · subst hz
      have ek : ((0 : Nat) : Int) - 1 = -1 := by omega
      rw [ek]
      clear ek
      obtain ⟨qs, ql, qv, R⟩ := S.qs
      rw [List.drop_zero] at qv
      have hr := S.rb
      have e1 : val xs / b = val qs ∧ val xs % b = r := by
        refine (Nat.div_mod_unique b0).2 ⟨?_, hr⟩
        rw [qv, Nat.mul_comm, Nat.add_comm]
      have T := hBl.trans (S.t.below (Nat.le_refl _))
      have TR := trim_at (R.lim (o := 0) (n := n) (c := n) (by simp; omega) (Nat.le_refl _) (by omega))
      unfold RetA at TR
      rw [List.drop_zero, List.take_of_length_le (by simp; omega), List.replicate_zero, List.nil_append, ← e1.1] at TR
      have TR := Lib.hid TR
      have E1 := Lib.hid e1
      clear R S qv ql hq e1
      go_wp2_with fail
      refine TR.out.mono ?_
      rintro e w2 ⟨A2, n2, c2, rfl, L2, H2, rfl⟩
      go_wp2_with fail
      go_ret2
      exact ⟨_, _, _, by rw [E1.out.2]; rfl, L2, fun ad e => (by have e2 := H2 ad e; injection e2 with e2; rw [HG.out, ← e2]), by rw [HG.out]; exact T⟩
    · obtain ⟨k, rfl⟩ : ∃ k, gk = k + 1 := ⟨gk - 1, by omega⟩
      have ek : ((k + 1 : Nat) : Int) - 1 = (k : Int) := by omega
      rw [ek]
      have kx : k < xs.length := by rw [HL.out]; omega
      obtain ⟨ad, rfl, c1⟩ := (turn_lim S.t LA.out NA.out).at_ k kx
      obtain ⟨c3, f3, ST⟩ := S.step bb kx LX.out (by omega)
      have ST := Lib.hid ST
      have hx := LX.out.at_ k kx
      have KD := Lib.hid (div32 r xs[k] b S.rb hx bb)
      generalize xs[k] = x at *
      generalize (r * 4294967296 + x) / b = v at *
      generalize (r * 4294967296 + x) % b = r2 at *
      have il0 : (0 : Int) ≤ k := by omega
      have il : (k : Int) < n := by omega
      clear S ek
      go_wp2_with fail
      refine (KD.out _).mono ?_
      rintro e w1 ⟨rfl, m, rfl⟩
      go_wp2_with fail
      go_roundg k
      case measure => omega
      case rel =>
        go_light
        exact ⟨r2, by omega, rfl, rfl, ST.out.drewN m⟩
theorem divShort_any {A : Option Addr} {n c b : Nat} {xs : List Nat} {w : World} (ha : Lim w A n c xs) (hn : n ≤ 1000) (b0 : 0 < b) (bb : b < 4294967296) :
    Calls Tryd.prog 61 #[.slice A n c, lv b] w fun e w' => RetQ (val xs / b) (val xs % b) w e w' :=
  (divShort_at ha hn b0 bb).mono fun _ _ ⟨A', n', c', h1, h2, _, h4⟩ => ⟨A', n', c', h1, h2, h4⟩
end Go.Proofs.YtnacokogihanoaaDoor
