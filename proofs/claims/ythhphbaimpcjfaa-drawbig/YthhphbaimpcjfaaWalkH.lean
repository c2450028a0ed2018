/- The walks of From, Of, divShort. -/
import Derived.Test.YthhphbaimpcjfaaWalkF
namespace Go.Proofs.Ythhphbaimpcjfaa
open Go.RowKit
set_option linter.unusedVariables false
set_option linter.unusedSimpArgs false

theorem Row.new_of (w : World) (xs : List Nat) (vs : Array Value) (h : Lo xs) (e : vs = (xs.map lv).toArray) : Row (w.alloc (.cells vs 48)) w.heap.size xs := by
  subst e; exact Row.new w xs h
theorem four_val (h l : Nat) : val [l % 4294967296, l / 4294967296, h % 4294967296, h / 4294967296] = h * 18446744073709551616 + l := by
  rw [val_cons, val_cons, val_cons, val_cons, val_nil, B_eq]; omega

set_option maxHeartbeats 1000000 in
set_option maxRecDepth 100000 in
theorem from_any (h l : Nat) (hh : h < 18446744073709551616) (hl : l < 18446744073709551616) (w : World) : Calls Try.prog 41 #[.agg #[.int .u64 h, .int .u64 l]] w fun e w' => RetN (h * 18446744073709551616 + l) w e w' := by
  have R : Hid (∀ W : World, Row (W.alloc (.cells #[.int .u32 ((l : Int) % 4294967296), .int .u32 ((l : Int) / 4294967296), .int .u32 ((h : Int) % 4294967296), .int .u32 ((h : Int) / 4294967296)] 48)) W.heap.size [l % 4294967296, l / 4294967296, h % 4294967296, h / 4294967296]) := by
    intro W
    refine Row.new_of W _ _ (.cons ?_ (.cons ?_ (.cons ?_ (.cons ?_ .nil)))) ?_
    · omega
    · omega
    · omega
    · omega
    · simp
  have EV := Lib.hid (four_val h l)
  go_enter Try.func41, Try.ntmps41
  go_wp2_with fail
  have R1 := R.out (w.alloc (.cells #[.int .u64 h, .int .u64 l] 68))
  have hb : Below w.heap.size w ((w.alloc (.cells #[.int .u64 h, .int .u64 l] 68)).alloc (.cells #[.int .u32 ((l : Int) % 4294967296), .int .u32 ((l : Int) / 4294967296), .int .u32 ((h : Int) % 4294967296), .int .u32 ((h : Int) / 4294967296)] 48)) := ((Below.refl _ _).alloc (Nat.le_refl _) _).alloc (by simp) _
  have TR := trim_any (R1.lim (o := 0) (n := 4) (c := 4) (by simp) (Nat.le_refl _) (by omega))
  rw [List.drop_zero, List.take_of_length_le (by simp), EV.out] at TR
  simp only [World.size_alloc] at TR
  refine TR.mono ?_
  rintro e w1 ⟨A1, n1, c1, rfl, L1, rfl⟩
  go_wp2_with fail
  go_ret
  exact ⟨_, _, _, rfl, L1, hb⟩
set_option maxRecDepth 100000 in
theorem of_any (n : Nat) (hn : n < 18446744073709551616) (w : World) : Calls Try.prog 36 #[.int .u64 n] w fun e w' => RetN n w e w' := by
  have K := from_any 0 n (by decide) hn
  rw [Nat.zero_mul, Nat.zero_add] at K
  have K := Lib.hid K
  go_enter Try.func36, Try.ntmps36
  go_wp2_with fail
  refine (K.out _).mono ?_
  rintro e w1 ⟨A1, n1, c1, rfl, L1, B1⟩
  go_wp2_with fail
  go_ret
  exact ⟨_, _, _, rfl, L1, B1⟩

/-- A natural, and a limb. -/
def RetQ (q r : Nat) (w : World) (e : Ending) (w' : World) : Prop := ∃ A n c, e = .returned (.tuple #[.slice A n c, lv r]) ∧ Lim w' A n c (limbs q) ∧ Below w.heap.size w w'
/-- .. and where the natural lies. -/
def RetQ2 (q r : Nat) (w : World) (e : Ending) (w' : World) : Prop := ∃ A n c, e = .returned (.tuple #[.slice A n c, lv r]) ∧ Lim w' A n c (limbs q) ∧ (∀ ad, A = some ad → ad.block = w.heap.size) ∧ Below w.heap.size w w'
/-- What is in the loop of divShort. -/
structure Dsh (w : World) (g n : Nat) (xs : List Nat) (b i r : Nat) (wr : World) : Prop where
  qs : ∃ qs, qs.length + i = n ∧ val (xs.drop i) = val qs * b + r ∧ Row wr g (List.replicate i 0 ++ qs)
  rb : r < b
  t : Turn w wr g
theorem dsh_step {N Q b r B' x T : Nat} (h : N = Q * b + r) (ht : T = r * B' + x) : x + B' * N = (T / b + B' * Q) * b + T % b := by
  have e := Nat.div_add_mod T b
  rw [h, Nat.add_mul, Nat.mul_add, ← Nat.mul_assoc, Nat.mul_comm (T / b) b]
  rw [Nat.mul_comm B' r]
  omega
end Go.Proofs.Ythhphbaimpcjfaa
