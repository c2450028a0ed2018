/- Words in memory; the walks of right, ones, Left. -/
import Derived.Test.YthhphbaimpcjfaaWalkU
import Derived.Test.YthhphbaimpcjfaaDNum
namespace Go.Proofs.Ythhphbaimpcjfaa
open Go.RowKit
set_option linter.unusedVariables false
set_option linter.unusedSimpArgs false

/-- A word. -/
abbrev wd (x : Nat) : Value := .int .u64 (x : Int)
/-- The slice at A of length n reads as the words W. -/
structure Wl (w : World) (A : Option Addr) (n c : Nat) (W : List Nat) : Prop where
  len : W.length = n
  cap : n ≤ c
  top : c ≤ 9223372036854775807
  at_ : ∀ j (h : j < W.length), ∃ ad, A = some ad ∧ w.cell? (ad.add j) = some (wd W[j])
  lo : Lw W
section
variable {w w' : World} {A : Option Addr} {n c : Nat} {W : List Nat}
theorem Wl.next (h : Wl w A n c W) (hb : Below w.heap.size w w') : Wl w' A n c W :=
  ⟨h.len, h.cap, h.top, fun j hj => by
    obtain ⟨ad, e, hc⟩ := h.at_ j hj
    exact ⟨ad, e, keep_cell hb hc⟩, h.lo⟩
theorem Wl.drewN (h : Wl w A n c W) (k : Nat) : Wl (w.drewN k) A n c W := ⟨h.len, h.cap, h.top, h.at_, h.lo⟩
theorem Wl.alloc (h : Wl w A n c W) (o : Obj) : Wl (w.alloc o) A n c W := h.next ((Below.refl _ _).alloc (Nat.le_refl _) o)
theorem Wl.none_ (w : World) (A : Option Addr) (c : Nat) (hc : c ≤ 9223372036854775807) : Wl w A 0 c [] := ⟨rfl, Nat.zero_le _, hc, fun j hj => absurd hj (by simp), .nil⟩
theorem Wl.cell {ad : Addr} (h : Wl w (some ad) n c W) (j : Nat) (hj : j < W.length) : w.cell? (ad.add j) = some (wd W[j]) := by
  obtain ⟨ad', e, hc⟩ := h.at_ j hj
  injection e with e
  subst e
  exact hc
theorem Wl.some_ (h : Wl w A n c W) (hn : 0 < n) : ∃ ad, A = some ad := by
  obtain ⟨ad, e, _⟩ := h.at_ 0 (by have := h.len; omega)
  exact ⟨ad, e⟩
end
/-- Is p a place of n words, or their end? -/
@[irreducible] def okB (p : Int) (n : Nat) : Bool := decide (0 ≤ p ∧ p ≤ (n : Int))
theorem okB_yes {p : Int} {n : Nat} (h : 0 ≤ p ∧ p ≤ (n : Int)) : okB p n = true := by unfold okB; simpa using h
theorem okB_no {p : Int} {n : Nat} (h : ¬ (0 ≤ p ∧ p ≤ (n : Int))) : okB p n = false := by unfold okB; exact decide_eq_false h
/-- The words, at a place. -/
abbrev wds (A : Option Addr) (n c : Nat) (p : Int) : Value := .agg #[.slice A n c, .int .i64 p]

set_option maxRecDepth 100000 in
theorem dright_any (A : Option Addr) (n c : Nat) (p : Int) (hn : n ≤ 9223372036854775807) (w : World) : Calls Try.prog 19 #[wds A n c p] w fun e w' => e = .returned (.bool (okB p n)) ∧ Below w.heap.size w w' := by
  have BL : Below w.heap.size w (w.alloc (.cells #[.slice A n c, .int .i64 p] 28)) := (Below.refl _ _).alloc (Nat.le_refl _) _
  by_cases h0 : 0 ≤ p
  · by_cases h1 : p ≤ (n : Int)
    · have E := Lib.hid (okB_yes ⟨h0, h1⟩)
      go_enter Try.func19, Try.ntmps19
      go_wp2_with fail
      go_ret
      exact ⟨by rw [E.out]; rfl, BL⟩
    · have E := Lib.hid (okB_no (p := p) (n := n) (by omega))
      go_enter Try.func19, Try.ntmps19
      go_wp2_with fail
      go_ret
      exact ⟨by rw [E.out]; rfl, BL⟩
  · have E := Lib.hid (okB_no (p := p) (n := n) (by omega))
    go_enter Try.func19, Try.ntmps19
    go_wp2_with fail
    go_ret
    exact ⟨by rw [E.out]; rfl, BL⟩
theorem ones_num (k : Nat) (hk : k ≤ 64) : IntKind.u64.wrap (IntKind.u64.wrap ((2 : Int) ^ k) - 1) = (on k : Int) := by
  have e : (2 : Int) ^ k = ((2 ^ k : Nat) : Int) := by rw [Int.natCast_pow]; rfl
  have a := Nat.two_pow_pos k
  rw [e, on_eq, IntKind.wrap_u64, IntKind.wrap_u64]
  rcases Nat.lt_or_eq_of_le hk with h | rfl
  · have b := Nat.pow_lt_pow_right (a := 2) (by decide) h
    rw [show (2 : Nat) ^ 64 = 18446744073709551616 from by decide] at b
    generalize 2 ^ k = x at *
    omega
  · rw [show (2 : Nat) ^ 64 = 18446744073709551616 from by decide]
    omega
set_option maxRecDepth 100000 in
theorem ones_any (k : Nat) (hk : k ≤ 64) (w : World) : Calls Try.prog 20 #[.int .i64 (k : Int)] w fun e w' => e = .returned (wd (on k)) ∧ w = w' := by
  have E := Lib.hid (ones_num k hk)
  go_enter Try.func20, Try.ntmps20
  go_wp2_with fail
  go_ret
  exact ⟨congrArg (fun z => Ending.returned (.int .u64 z)) E.out, rfl⟩
end Go.Proofs.Ythhphbaimpcjfaa
