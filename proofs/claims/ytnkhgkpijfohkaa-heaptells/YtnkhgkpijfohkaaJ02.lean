/- Numbers that lie in blocks of the call's own. Plain arithmetic: digits of sixteen bits. The walks of the document's answers: Digits, Number. The walk of the document's answer: Cmp. The walks of the document's answers: Add, Sub. Plain arithmetic: a product, digit by digit. The walk of the document's answer: Mul. The walks of Right, trim, Cmp, fitting. The walks of Compare, Cmp, Bits, fitting. Bits of words of 32 and 64 bits; how many bits a number has. -/
import Derived.Test.YtnkhgkpijfohkaaJ01
import Derived.ProofKit
import Derived.OpenShut
import Derived.Lib.SmallJoins
import Derived.Handy
import Derived.Test.YtnkhgkpijfohkaaJ00
import Derived.Test.YtnkhgkpijfohkaaShelf
import Derived.Laws.BitsAllLaws
import Derived.Laws.BitsLemmas
import Derived.Lib.BitFns
namespace Go.Proofs.Ytnkhgkpijfohkaa.Wd
open Go.RowKit
set_option linter.unusedSimpArgs false
set_option linter.unusedVariables false

/-- In each block the number lies that stands beside it. -/
def Lie : List (Nat × Nat) → World → Prop
  | [], _ => True
  | (b, n) :: r, w => w.cell? ⟨b, 0, none⟩ = some (.int .u64 (hi n)) ∧ w.cell? ⟨b, 1, none⟩ = some (.int .u64 (lo n)) ∧ Lie r w
theorem Lie.next {W w1 : World} (hb : Below W.heap.size W w1) : ∀ {L : List (Nat × Nat)}, Lie L W → Lie L w1
  | [], _ => trivial
  | (_, _) :: _, h => ⟨keep_cell hb h.1, keep_cell hb h.2.1, Lie.next hb h.2.2⟩
theorem Lie.box {W : World} {L : List (Nat × Nat)} (h : Lie L W) (n : Nat) : Lie ((W.heap.size, n) :: L) (W.alloc (.cells #[.int .u64 (hi n), .int .u64 (lo n)] 59)) :=
  ⟨by simp [go_sem], by simp [go_sem], Lie.next ((Below.refl _ _).alloc (Nat.le_refl _) _) h⟩
theorem Lie.drew {W : World} : ∀ {L : List (Nat × Nat)}, Lie L W → Lie L W.drew
  | [], _ => trivial
  | (_, _) :: _, h => ⟨h.1, h.2.1, Lie.drew h.2.2⟩
/-- .. and nothing that was there has turned. -/
structure St (w : World) (L : List (Nat × Nat)) (wx : World) : Prop where
  lie : Lie L wx
  bl : Below w.heap.size w wx
theorem St.start (w : World) : St w [] w := ⟨trivial, Below.refl _ _⟩
theorem St.next {w : World} {L : List (Nat × Nat)} {W w1 : World} (s : St w L W) (hb : Below W.heap.size W w1) : St w L w1 := ⟨s.lie.next hb, below_step s.bl hb⟩
theorem St.box {w : World} {L : List (Nat × Nat)} {W : World} (s : St w L W) (n : Nat) : St w ((W.heap.size, n) :: L) (W.alloc (.cells #[.int .u64 (hi n), .int .u64 (lo n)] 59)) := ⟨s.lie.box n, s.bl.alloc s.bl.size _⟩
theorem St.drew {w : World} {L : List (Nat × Nat)} {W : World} (s : St w L W) : St w L W.drew := ⟨s.lie.drew, s.bl.drew⟩

theorem fact_of {p q : Prop} (h : p) (k : p → q) : q := k h

theorem cell_put0 {w : World} {b : Nat} {u v : Value} (h : w.cell? ⟨b, 0, none⟩ = some (.int .u64 0)) : ((w.setCell ⟨b, 0, none⟩ u).setCell ⟨b, 1, none⟩ v).cell? ⟨b, 0, none⟩ = some u := by simp [go_sem, h]
theorem cell_put1 {w : World} {b : Nat} {u v : Value} (h : w.cell? ⟨b, 1, none⟩ = some (.int .u64 0)) : ((w.setCell ⟨b, 0, none⟩ u).setCell ⟨b, 1, none⟩ v).cell? ⟨b, 1, none⟩ = some v := by simp [go_sem, h]

/-- Three blocks of the call's own: two numbers, and one that may be written. -/
structure Three (w : World) (a b : Nat) (x y : Value) (wx : World) : Prop where
  a0 : wx.cell? ⟨w.heap.size, 0, none⟩ = some (.int .u64 (hi a))
  a1 : wx.cell? ⟨w.heap.size, 1, none⟩ = some (.int .u64 (lo a))
  b0 : wx.cell? ⟨w.heap.size + 1, 0, none⟩ = some (.int .u64 (hi b))
  b1 : wx.cell? ⟨w.heap.size + 1, 1, none⟩ = some (.int .u64 (lo b))
  r0 : wx.cell? ⟨w.heap.size + 1 + 1, 0, none⟩ = some x
  r1 : wx.cell? ⟨w.heap.size + 1 + 1, 1, none⟩ = some y
  m0 : wx.frozen? ⟨w.heap.size + 1 + 1, 0, none⟩ = false
  m1 : wx.frozen? ⟨w.heap.size + 1 + 1, 1, none⟩ = false
  sz : w.heap.size + 1 + 1 < wx.heap.size
  bl : Below w.heap.size w wx
theorem Three.next {w : World} {a b : Nat} {x y : Value} {W w1 : World} (t : Three w a b x y W) (hb : Below W.heap.size W w1) : Three w a b x y w1 :=
  ⟨keep_cell hb t.a0, keep_cell hb t.a1, keep_cell hb t.b0, keep_cell hb t.b1, keep_cell hb t.r0, keep_cell hb t.r1, keep_melt hb t.r0 t.m0, keep_melt hb t.r1 t.m1, Nat.lt_of_lt_of_le t.sz hb.size, t.bl.trans (hb.mono (by have := t.sz; omega))⟩
theorem Three.start (w : World) (a b : Nat) (x y : Value) : Three w a b x y (((w.alloc (.cells #[.int .u64 (hi a), .int .u64 (lo a)] 59)).alloc (.cells #[.int .u64 (hi b), .int .u64 (lo b)] 59)).alloc (.cells #[x, y] 59)) := by
  refine ⟨?_, ?_, ?_, ?_, ?_, ?_, ?_, ?_, ?_, three_bel _ _ _ _⟩ <;> simp [go_sem, World.cell?_alloc_past]
theorem Three.drewN {w : World} {a b : Nat} {x y : Value} {W : World} (t : Three w a b x y W) (n : Nat) : Three w a b x y (W.drewN n) := ⟨t.a0, t.a1, t.b0, t.b1, t.r0, t.r1, t.m0, t.m1, t.sz, below_drewN t.bl n⟩
theorem Three.drew {w : World} {a b : Nat} {x y : Value} {W : World} (t : Three w a b x y W) : Three w a b x y W.drew := ⟨t.a0, t.a1, t.b0, t.b1, t.r0, t.r1, t.m0, t.m1, t.sz, t.bl.drew⟩

theorem Three.set {w : World} {a b : Nat} {x y : Value} {W : World} (t : Three w a b x y W) {p : Addr} (v : Value) (hp : w.heap.size + 1 + 1 < p.block) : Three w a b x y (W.setCell p v) :=
  ⟨keep_set t.a0 _ (by simp <;> omega), keep_set t.a1 _ (by simp <;> omega), keep_set t.b0 _ (by simp <;> omega), keep_set t.b1 _ (by simp <;> omega), keep_set t.r0 _ (by simp <;> omega), keep_set t.r1 _ (by simp <;> omega),
    (World.frozen?_setCell _ _ _ _).trans t.m0, (World.frozen?_setCell _ _ _ _).trans t.m1, by rw [World.size_setCell]; exact t.sz, t.bl.setCell (by omega) _⟩
theorem Three.alloc {w : World} {a b : Nat} {x y : Value} {W : World} (t : Three w a b x y W) (o : Obj) : Three w a b x y (W.alloc o) := t.next ((Below.refl _ _).alloc (Nat.le_refl _) o)
theorem bcell {W w1 : World} (hb : Below W.heap.size W w1) : (∀ b o, b < W.heap.size → w1.cell? ⟨b, o, none⟩ = W.cell? ⟨b, o, none⟩) ∧ (∀ b o, b < W.heap.size → w1.frozen? ⟨b, o, none⟩ = W.frozen? ⟨b, o, none⟩) :=
  ⟨fun _ _ h => hb.cell h, fun _ _ h => hb.frozen h⟩

theorem cmp_bel (a b : Nat) (w : World) : Calls Try.prog 37 #[U a, U b] w fun e w' => e = .returned (.int .i64 (sgn a b)) ∧ Below w.heap.size w w' :=
  (cmp_any a b w).mono fun _ _ ⟨he, _, _, hw⟩ => ⟨he, by subst hw; exact two_bel _ _ _⟩
end Go.Proofs.Ytnkhgkpijfohkaa.Wd
namespace Go.Proofs.Ytnkhgkpijfohkaa.Wd
set_option linter.unusedVariables false
/-- The i-th digit of sixteen bits. -/
@[irreducible] def dgN (n i : Nat) : Nat := n / 65536 ^ i % 65536
@[irreducible] def dg (n i : Nat) : Int := (dgN n i : Int)
theorem dg_nat (n i : Nat) : dg n i = (dgN n i : Int) := by unfold dg; rfl
theorem dgN_lt (n i : Nat) : dgN n i < 65536 := by unfold dgN; exact Nat.mod_lt _ (by decide)
theorem dgN_eq (n i : Nat) : dgN n i = n / 65536 ^ i % 65536 := by unfold dgN; rfl
theorem dg_nonneg (n i : Nat) : 0 ≤ dg n i := by rw [dg_nat]; omega
theorem dg_lt (n i : Nat) : dg n i < 65536 := by rw [dg_nat]; have := dgN_lt n i; omega
theorem dg_lo (n : Nat) : lo n % 65536 = dg n 0 ∧ lo n / 65536 % 65536 = dg n 1 ∧ lo n / 4294967296 % 65536 = dg n 2 ∧ lo n / 281474976710656 % 65536 = dg n 3 := by
  unfold dg dgN lo
  refine ⟨?_, ?_, ?_, ?_⟩ <;> simp only [Nat.reducePow] <;> omega
theorem dg_hi (n : Nat) (h : Fits n) : hi n % 65536 = dg n 4 ∧ hi n / 65536 % 65536 = dg n 5 ∧ hi n / 4294967296 % 65536 = dg n 6 ∧ hi n / 281474976710656 % 65536 = dg n 7 := by
  unfold dg dgN hi Fits at *
  refine ⟨?_, ?_, ?_, ?_⟩ <;> simp only [Nat.reducePow] <;> omega
/-- The number of eight digits. -/
@[irreducible] def num (d : Nat → Int) : Nat := (d 0).toNat + (d 1).toNat * 65536 + (d 2).toNat * 4294967296 + (d 3).toNat * 281474976710656 + (d 4).toNat * 18446744073709551616 + (d 5).toNat * 1208925819614629174706176 + (d 6).toNat * 79228162514264337593543950336 + (d 7).toNat * 5192296858534827628530496329220096
theorem num_dg (n : Nat) (h : Fits n) : num (dg n) = n := by
  unfold num
  simp only [dg_nat, Int.toNat_natCast, dgN_eq]
  unfold Fits at h
  simp only [Nat.reducePow]
  omega
theorem num_congr {d e : Nat → Int} (h : ∀ j, j < 8 → d j = e j) : num d = num e := by
  unfold num
  rw [h 0 (by decide), h 1 (by decide), h 2 (by decide), h 3 (by decide), h 4 (by decide), h 5 (by decide), h 6 (by decide), h 7 (by decide)]
theorem words_two (L H : Nat) (hL : L < 18446744073709551616) (hH : H < 18446744073709551616) : Fits (H * 18446744073709551616 + L) ∧ lo (H * 18446744073709551616 + L) = (L : Int) ∧ hi (H * 18446744073709551616 + L) = (H : Int) := by
  unfold Fits lo hi; omega
theorem num_words (d : Nat → Int) (h : ∀ j, j < 8 → 0 ≤ d j ∧ d j < 65536) : Fits (num d) ∧ lo (num d) = ((d 3 * 65536 + d 2) * 65536 + d 1) * 65536 + d 0 ∧ hi (num d) = ((d 7 * 65536 + d 6) * 65536 + d 5) * 65536 + d 4 := by
  obtain ⟨a0, b0⟩ := h 0 (by decide); obtain ⟨a1, b1⟩ := h 1 (by decide); obtain ⟨a2, b2⟩ := h 2 (by decide); obtain ⟨a3, b3⟩ := h 3 (by decide)
  obtain ⟨a4, b4⟩ := h 4 (by decide); obtain ⟨a5, b5⟩ := h 5 (by decide); obtain ⟨a6, b6⟩ := h 6 (by decide); obtain ⟨a7, b7⟩ := h 7 (by decide)
  have e : num d = ((((d 7).toNat * 65536 + (d 6).toNat) * 65536 + (d 5).toNat) * 65536 + (d 4).toNat) * 18446744073709551616 + ((((d 3).toNat * 65536 + (d 2).toNat) * 65536 + (d 1).toNat) * 65536 + (d 0).toNat) := by
    unfold num; omega
  have w := words_two ((((d 3).toNat * 65536 + (d 2).toNat) * 65536 + (d 1).toNat) * 65536 + (d 0).toNat) ((((d 7).toNat * 65536 + (d 6).toNat) * 65536 + (d 5).toNat) * 65536 + (d 4).toNat) (by omega) (by omega)
  rw [e]
  refine ⟨w.1, w.2.1.trans ?_, w.2.2.trans ?_⟩
  · omega
  · omega

/-- What is carried into the k-th digit of a sum. -/
@[irreducible] def carry (a b k : Nat) : Nat := (a % 65536 ^ k + b % 65536 ^ k) / 65536 ^ k
theorem carry_zero (a b : Nat) : carry a b 0 = 0 := by unfold carry; simp [Nat.mod_one]
theorem carry_le (a b k : Nat) : carry a b k ≤ 1 := by
  unfold carry
  have p : 0 < 65536 ^ k := Nat.pow_pos (by decide)
  have h1 := Nat.mod_lt a p
  have h2 := Nat.mod_lt b p
  refine Nat.le_of_lt_succ ((Nat.div_lt_iff_lt_mul p).2 ?_)
  omega
theorem mod_step (a k : Nat) : a % 65536 ^ (k + 1) = a % 65536 ^ k + dgN a k * 65536 ^ k := by
  rw [dgN_eq, Nat.pow_succ, Nat.mod_mul, Nat.mul_comm (a / 65536 ^ k % 65536)]
theorem sum_step (a b k : Nat) : dgN a k + dgN b k + carry a b k = dgN (a + b) k + 65536 * carry a b (k + 1) := by
  have p : 0 < 65536 ^ k := Nat.pow_pos (by decide)
  have ea := mod_step a k
  have eb := mod_step b k
  have hc : carry a b k = (a % 65536 ^ k + b % 65536 ^ k) / 65536 ^ k := by unfold carry; rfl
  have hc1 : carry a b (k + 1) = (a % 65536 ^ (k + 1) + b % 65536 ^ (k + 1)) / 65536 ^ (k + 1) := by unfold carry; rfl
  have e1 : carry a b (k + 1) = (dgN a k + dgN b k + carry a b k) / 65536 := by
    rw [hc1, ea, eb, Nat.pow_succ, ← Nat.div_div_eq_div_mul]
    have : a % 65536 ^ k + dgN a k * 65536 ^ k + (b % 65536 ^ k + dgN b k * 65536 ^ k) = (a % 65536 ^ k + b % 65536 ^ k) + (dgN a k + dgN b k) * 65536 ^ k := by rw [Nat.add_mul]; omega
    rw [this, Nat.add_mul_div_right _ _ p, ← hc, Nat.add_comm]
  have e2 : dgN (a + b) k = (dgN a k + dgN b k + carry a b k) % 65536 := by
    have sa := Nat.div_add_mod' a (65536 ^ k)
    have sb := Nat.div_add_mod' b (65536 ^ k)
    have : (a + b) / 65536 ^ k = a / 65536 ^ k + b / 65536 ^ k + carry a b k := by
      have : a + b = (a % 65536 ^ k + b % 65536 ^ k) + (a / 65536 ^ k + b / 65536 ^ k) * 65536 ^ k := by rw [Nat.add_mul]; omega
      rw [this, Nat.add_mul_div_right _ _ p, hc]
      omega
    rw [dgN_eq, dgN_eq, dgN_eq, this]
    omega
  omega
theorem carry_fits (a b : Nat) (h : Fits (a + b)) : carry a b 8 = 0 := by
  have e : (65536 : Nat) ^ 8 = 340282366920938463463374607431768211456 := by decide
  unfold carry Fits at *
  rw [e]; omega
theorem carry_over (a b : Nat) (ha : Fits a) (hb : Fits b) (h : ¬ Fits (a + b)) : carry a b 8 = 1 := by
  have e : (65536 : Nat) ^ 8 = 340282366920938463463374607431768211456 := by decide
  unfold carry Fits at *
  rw [e]; omega

/-- What is owed at the k-th digit of a difference. -/
@[irreducible] def owed (a b k : Nat) : Nat := if a % 65536 ^ k < b % 65536 ^ k then 1 else 0
theorem owed_zero (a b : Nat) : owed a b 0 = 0 := by unfold owed; simp [Nat.mod_one]
theorem owed_le (a b k : Nat) : owed a b k ≤ 1 := by unfold owed; split <;> omega
theorem diff_step (a b k : Nat) (h : b ≤ a) : 65536 + dgN a k = dgN (a - b) k + dgN b k + owed a b k + 65536 * (1 - owed a b (k + 1)) := by
  -- the sum of what is taken away and what is left
  have s := sum_step (a - b) b k
  have e : a - b + b = a := by omega
  rw [e] at s
  have key : ∀ k, carry (a - b) b k = owed a b k := by
    intro k
    have p : 0 < 65536 ^ k := Nat.pow_pos (by decide)
    have h1 := Nat.mod_lt (a - b) p
    have h2 := Nat.mod_lt b p
    have h3 := Nat.mod_lt a p
    have m : ((a - b) % 65536 ^ k + b % 65536 ^ k) % 65536 ^ k = a % 65536 ^ k := by
      rw [← Nat.add_mod, e]
    unfold carry owed
    generalize (a - b) % 65536 ^ k = x at *
    generalize b % 65536 ^ k = y at *
    generalize a % 65536 ^ k = z at *
    generalize 65536 ^ k = B at *
    by_cases c : x + y < B
    · rw [Nat.mod_eq_of_lt c] at m
      rw [if_neg (by omega), Nat.div_eq_of_lt c]
    · have : (x + y) % B = x + y - B := by rw [Nat.mod_eq_sub_mod (by omega), Nat.mod_eq_of_lt (by omega)]
      rw [if_pos (by omega)]
      have : (x + y) / B = 1 := by
        rw [Nat.div_eq_iff p]
        omega
      exact this
  rw [key, key] at s
  have := owed_le a b (k + 1)
  omega
end Go.Proofs.Ytnkhgkpijfohkaa.Wd
namespace Go.Proofs.Ytnkhgkpijfohkaa.Wd
open Go.RowKit
set_option linter.unusedSimpArgs false
set_option linter.unusedVariables false

/-- Eight digits as a value. -/
abbrev V (d : Nat → Int) : Value := .agg #[.int .u64 (d 0), .int .u64 (d 1), .int .u64 (d 2), .int .u64 (d 3), .int .u64 (d 4), .int .u64 (d 5), .int .u64 (d 6), .int .u64 (d 7)]

set_option maxHeartbeats 4000000 in
set_option maxRecDepth 100000 in
theorem digits_any (n : Nat) (hn : Fits n) (w : World) : Calls Try.prog 45 #[U n] w fun e w' => e = .returned (V (dg n)) ∧ ∃ c1 c2 c3, w' = ((w.alloc (.cells c1 59)).alloc (.cells c2 65)).alloc (.cells c3 65) := by
  have l0 := lo_nonneg n; have h0 := hi_nonneg n
  obtain ⟨d0, d1, d2, d3⟩ := dg_lo n
  obtain ⟨d4, d5, d6, d7⟩ := dg_hi n hn
  have D0 := Lib.hid d0; have D1 := Lib.hid d1; have D2 := Lib.hid d2; have D3 := Lib.hid d3
  have D4 := Lib.hid d4; have D5 := Lib.hid d5; have D6 := Lib.hid d6; have D7 := Lib.hid d7
  clear d0 d1 d2 d3 d4 d5 d6 d7 hn
  go_enter Try.func45, Try.ntmps45
  go_wp2_with fail
  go_rounds 5
  rw [D0.out, D1.out, D2.out, D3.out, D4.out, D5.out, D6.out, D7.out]
  exact bodyPost_ret (v := V (dg n)) (by simp [results, Try.results45, go_sem]) rfl ⟨rfl, _, _, _, rfl⟩

set_option maxHeartbeats 4000000 in
set_option maxRecDepth 100000 in
theorem number_any (d : Nat → Int) (h : ∀ j, j < 8 → 0 ≤ d j ∧ d j < 65536) (w : World) : Calls Try.prog 48 #[V d] w fun e w' => e = .returned (U (num d)) ∧ Below w.heap.size w w' := by
  obtain ⟨_, hl, hh⟩ := num_words d h
  obtain ⟨a0, b0⟩ := h 0 (by decide); obtain ⟨a1, b1⟩ := h 1 (by decide); obtain ⟨a2, b2⟩ := h 2 (by decide); obtain ⟨a3, b3⟩ := h 3 (by decide)
  obtain ⟨a4, b4⟩ := h 4 (by decide); obtain ⟨a5, b5⟩ := h 5 (by decide); obtain ⟨a6, b6⟩ := h 6 (by decide); obtain ⟨a7, b7⟩ := h 7 (by decide)
  have HL := Lib.hid hl; have HH := Lib.hid hh
  clear hl hh h
  go_enter Try.func48, Try.ntmps48
  go_wp2_with fail
  refine wp_loop_rounds 5 ?_
  rw [rounds_succ]; go_wp2; go_region; go_wp2; go_region; go_wp2
  rw [rounds_succ]; go_wp2; go_region; go_wp2; go_region; go_wp2
  rw [rounds_succ]; go_wp2; go_region; go_wp2; go_region; go_wp2
  rw [rounds_succ]; go_wp2; go_region; go_wp2; go_region; go_wp2
  rw [rounds_succ]; go_wp2
  rw [← HL.out, ← HH.out]
  exact bodyPost_ret (v := U (num d)) (by simp [results, Try.results48, go_sem]) rfl ⟨rfl, by
    repeat (first | exact Below.refl _ _ | with_reducible refine Below.drew ?_ | (with_reducible refine Below.alloc ?_ ?_ _; rotate_left; (· ((try simp only [World.size_alloc]); omega))))⟩

/-- A block that holds eight digits. -/
def Blk (wx : World) (g : Nat) (d : Nat → Int) : Prop := wx.heap[g]? = some (.cells #[.int .u64 (d 0), .int .u64 (d 1), .int .u64 (d 2), .int .u64 (d 3), .int .u64 (d 4), .int .u64 (d 5), .int .u64 (d 6), .int .u64 (d 7)] 65)
theorem Blk.lt {wx : World} {g : Nat} {d : Nat → Int} (h : Blk wx g d) : g < wx.heap.size := by
  unfold Blk at h
  exact (Array.getElem?_eq_some_iff.1 h).1
theorem Blk.new {w : World} {g : Nat} (d : Nat → Int) (hg : g = w.heap.size) : Blk (w.alloc (.cells #[.int .u64 (d 0), .int .u64 (d 1), .int .u64 (d 2), .int .u64 (d 3), .int .u64 (d 4), .int .u64 (d 5), .int .u64 (d 6), .int .u64 (d 7)] 65)) g d := by
  subst hg
  show (w.heap.push _)[w.heap.size]? = _
  simp
theorem Blk.old {w : World} {g : Nat} {d : Nat → Int} (h : Blk w g d) (o : Obj) : Blk (w.alloc o) g d := (Below.heap_alloc w o g h.lt).trans h
theorem Blk.drew {w : World} {g : Nat} {d : Nat → Int} (h : Blk w g d) : Blk w.drew g d := h
theorem Blk.cell {w : World} {g : Nat} {d : Nat → Int} (h : Blk w g d) (j : Nat) (hj : j < 8) : w.cell? ⟨g, j, none⟩ = some (.int .u64 (d j)) := by
  unfold Blk at h
  rcases (by omega : j = 0 ∨ j = 1 ∨ j = 2 ∨ j = 3 ∨ j = 4 ∨ j = 5 ∨ j = 6 ∨ j = 7) with rfl | rfl | rfl | rfl | rfl | rfl | rfl | rfl <;> simp [World.cell?, h]
theorem Blk.melt {w : World} {g : Nat} {d : Nat → Int} (h : Blk w g d) (j : Nat) : w.frozen? ⟨g, j, none⟩ = false := by
  unfold Blk at h
  simp [World.frozen?, h]
/-- What two numbers' digits are, each in a block of its own. -/
def Both (W : World) (a b : Nat) (s6 s7 : Value) (wx : World) : Prop := ∃ gX gY, s6 = .pointer (some ⟨gX, 0, none⟩) ∧ s7 = .pointer (some ⟨gY, 0, none⟩) ∧ Blk wx gX (dg a) ∧ Blk wx gY (dg b) ∧ gX ≠ gY ∧ W.heap.size ≤ gX ∧ W.heap.size ≤ gY ∧ Below W.heap.size W wx
end Go.Proofs.Ytnkhgkpijfohkaa.Wd
namespace Go.Proofs.Ytnkhgkpijfohkaa.Wd
open Go.RowKit
set_option linter.unusedSimpArgs false
set_option linter.unusedVariables false

theorem high_eq (a b k : Nat) : a / 65536 ^ k = b / 65536 ^ k ↔ a / 65536 ^ (k + 1) = b / 65536 ^ (k + 1) ∧ dgN a k = dgN b k := by
  rw [dgN_eq, dgN_eq, Nat.pow_succ, ← Nat.div_div_eq_div_mul, ← Nat.div_div_eq_div_mul]
  omega
theorem high_lt (a b k : Nat) (h : a / 65536 ^ (k + 1) = b / 65536 ^ (k + 1)) (l : dgN a k < dgN b k) : a < b := by
  rw [dgN_eq, dgN_eq] at l
  rw [Nat.pow_succ, ← Nat.div_div_eq_div_mul, ← Nat.div_div_eq_div_mul] at h
  have : a / 65536 ^ k < b / 65536 ^ k := by omega
  exact Nat.lt_of_div_lt_div this

set_option maxHeartbeats 4000000 in
set_option maxRecDepth 100000 in
theorem refCmp_any (a b : Nat) (ha : Fits a) (hb : Fits b) (w : World) : Calls Try.prog 40 #[U a, U b] w fun e w' => e = .returned (.int .i64 (sgn a b)) ∧ Below w.heap.size w w' := by
  obtain ⟨c, hc⟩ : ∃ c, sgn a b = c := ⟨_, rfl⟩
  rw [hc]
  have HC := Lib.hid hc
  clear hc
  go_enter Try.func40, Try.ntmps40
  go_upto_region 1 with fail
  have S := ((St.start w).box a).box b
  generalize (w.alloc (.cells #[.int .u64 (hi a), .int .u64 (lo a)] 59)).alloc (.cells #[.int .u64 (hi b), .int .u64 (lo b)] 59) = W at *
  simp only [World.size_alloc] at S
  obtain ⟨b0, b1, a0, a1, _⟩ := S.lie
  go_cut [5, 6] (fun s5 s6 wx => Both W a b s5 s6 wx)
  case first =>
    go_region_held3 (fun w' => w'.cell? ⟨w.heap.size, 0, none⟩ = some (.int .u64 (hi a)) ∧ w'.cell? ⟨w.heap.size, 1, none⟩ = some (.int .u64 (lo a)) ∧ w'.cell? ⟨w.heap.size + 1, 0, none⟩ = some (.int .u64 (hi b)) ∧ w'.cell? ⟨w.heap.size + 1, 1, none⟩ = some (.int .u64 (lo b)))
      ((refine ⟨?_, ?_, ?_, ?_⟩ <;> (repeat (first | with_reducible exact a0 | with_reducible exact a1 | with_reducible exact b0 | with_reducible exact b1 | with_reducible refine keep_alloc ?_ _ | with_reducible refine keep_drew ?_))))
      (first
        | (go_at_call 45; refine (digits_any _ (by assumption) _).mono ?_; rintro e w1 ⟨rfl, c1, c2, c3, rfl⟩))
    all_goals go_wp2_with fail
    all_goals go_meet
    all_goals go_light
    all_goals refine ⟨_, _, rfl, rfl, ?_, ?_, ?_, ?_, ?_, ?_⟩
    all_goals first
      | omega
      | (repeat (first
        | (with_reducible refine Blk.new _ ?_; (· ((try simp only [World.size_alloc, World.size_drew]); done)))
        | with_reducible refine Blk.old ?_ _ | with_reducible refine Blk.drew ?_
        | exact Below.refl _ _ | with_reducible refine Below.drew ?_ | (with_reducible refine Below.alloc ?_ ?_ _; rotate_left; (· ((try simp only [World.size_alloc, World.size_drew]); omega)))))
  case rest =>
    obtain ⟨gX, gY, rfl, rfl, BX, BY, gne, gx, gy, bl⟩ := hcut
    have bw := below_step S.bl bl
    clear bl gx gy gne b0 b1 a0 a1 S
    go_wp2_with fail
    go_loopg [7] 8 (fun g i wr => ((g = 0 ∧ i = .int .i64 (-1)) ∨ ∃ k : Nat, g = k + 1 ∧ k < 8 ∧ i = .int .i64 (k : Int)) ∧ Hid (a / 65536 ^ g = b / 65536 ^ g) ∧ Blk wr gX (dg a) ∧ Blk wr gY (dg b) ∧ Below w.heap.size w wr)
    case atStart =>
      refine ⟨Or.inr ⟨7, rfl, by decide, rfl⟩, ?_, BX, BY, bw⟩
      unfold Hid Fits at *
      have e : (65536 : Nat) ^ 8 = 340282366920938463463374607431768211456 := by decide
      rw [e]; omega
    case round =>
      clear BX BY bw
      obtain ⟨i0 | ⟨k, rfl, hk, rfl⟩, EQ, BX, BY, bw⟩ := hrel
      · obtain ⟨rfl, rfl⟩ := i0
        have e : Hid (c = 0) := by
          unfold Hid
          rw [← HC.out]
          have := EQ.out
          simp at this
          subst this
          unfold sgn; rw [if_neg (by omega), if_neg (by omega)]
        clear EQ
        go_wp2_with fail
        go_ret
        exact ⟨by rw [e.out]; rfl, bw⟩
      · have x0 := BX.cell k hk; have y0 := BY.cell k hk
        have k8 : (k : Int) < 8 := by omega
        by_cases l : dg a k < dg b k
        · have e : Hid (c = -1) := by
            unfold Hid
            rw [← HC.out]
            have l' := l
            rw [dg_nat, dg_nat] at l'
            have := high_lt a b k EQ.out (by omega)
            unfold sgn; rw [if_pos this]
          clear EQ
          go_wp2_with fail
          go_quiet (fail)
          go_wp2_with fail
          go_ret
          exact ⟨by rw [e.out]; rfl, below_drewN bw _⟩
        · by_cases l2 : dg b k < dg a k
          · have e : Hid (c = 1) := by
              unfold Hid
              rw [← HC.out]
              have l' := l2
              rw [dg_nat, dg_nat] at l'
              have := high_lt b a k EQ.out.symm (by omega)
              unfold sgn; rw [if_neg (by omega), if_pos this]
            clear EQ
            go_wp2_with fail
            go_quiet (fail)
            go_wp2_with fail
            go_quiet (fail)
            go_wp2_with fail
            go_ret
            exact ⟨by rw [e.out]; rfl, below_drewN (below_drewN bw _) _⟩
          · have e : Hid (a / 65536 ^ k = b / 65536 ^ k) := by
              unfold Hid
              have h1 := l; have h2 := l2
              rw [dg_nat, dg_nat] at h1 h2
              exact (high_eq a b k).2 ⟨EQ.out, by omega⟩
            clear EQ
            go_wp2_with fail
            go_quiet (fail)
            go_wp2_with fail
            go_quiet (fail)
            go_wp2_with fail
            go_roundg k
            case measure => omega
            case rel =>
              go_light
              refine ⟨?_, e, BX, BY, below_drewN bw _⟩
              cases k with
              | zero => exact Or.inl ⟨rfl, rfl⟩
              | succ m => exact Or.inr ⟨m, rfl, by omega, congrArg _ (by omega)⟩
end Go.Proofs.Ytnkhgkpijfohkaa.Wd
namespace Go.Proofs.Ytnkhgkpijfohkaa.Wd
open Go.RowKit
set_option linter.unusedSimpArgs false
set_option linter.unusedVariables false

/-- Two rows of eight digits, the first of which may be written, and the result's block. -/
structure Rows8 (w : World) (R gX gY : Nat) (x y : Nat → Int) (wx : World) : Prop where
  xc : ∀ j, j < 8 → wx.cell? ⟨gX, j, none⟩ = some (.int .u64 (x j))
  xf : ∀ j, j < 8 → wx.frozen? ⟨gX, j, none⟩ = false
  yc : ∀ j, j < 8 → wx.cell? ⟨gY, j, none⟩ = some (.int .u64 (y j))
  r0 : wx.cell? ⟨R, 0, none⟩ = some (.int .u64 0)
  r1 : wx.cell? ⟨R, 1, none⟩ = some (.int .u64 0)
  f0 : wx.frozen? ⟨R, 0, none⟩ = false
  f1 : wx.frozen? ⟨R, 1, none⟩ = false
  ne : gX ≠ gY
  nr : gX ≠ R
  ge : w.heap.size ≤ gX
  bl : Below w.heap.size w wx
theorem Rows8.drewN {w : World} {R gX gY : Nat} {x y : Nat → Int} {W : World} (t : Rows8 w R gX gY x y W) (n : Nat) : Rows8 w R gX gY x y (W.drewN n) := ⟨t.xc, t.xf, t.yc, t.r0, t.r1, t.f0, t.f1, t.ne, t.nr, t.ge, below_drewN t.bl n⟩
theorem Rows8.next {w : World} {R gX gY : Nat} {x y : Nat → Int} {W w1 : World} (t : Rows8 w R gX gY x y W) (hb : Below W.heap.size W w1) : Rows8 w R gX gY x y w1 :=
  ⟨fun j hj => keep_cell hb (t.xc j hj), fun j hj => keep_melt hb (t.xc j hj) (t.xf j hj), fun j hj => keep_cell hb (t.yc j hj), keep_cell hb t.r0, keep_cell hb t.r1, keep_melt hb t.r0 t.f0, keep_melt hb t.r1 t.f1, t.ne, t.nr, t.ge, below_step t.bl hb⟩
theorem Rows8.put {w : World} {R gX gY : Nat} {x y : Nat → Int} {W : World} (t : Rows8 w R gX gY x y W) (k : Nat) (hk : k < 8) (v : Int) : Rows8 w R gX gY (fun j => if j = k then v else x j) y (W.setCell ⟨gX, k, none⟩ (.int .u64 v)) := by
  refine ⟨?_, fun j hj => (World.frozen?_setCell _ _ _ _).trans (t.xf j hj), fun j hj => keep_set (t.yc j hj) _ (Ne.symm t.ne), keep_set t.r0 _ (Ne.symm t.nr), keep_set t.r1 _ (Ne.symm t.nr), (World.frozen?_setCell _ _ _ _).trans t.f0, (World.frozen?_setCell _ _ _ _).trans t.f1, t.ne, t.nr, t.ge, t.bl.setCell t.ge _⟩
  intro j hj
  by_cases h : j = k
  · subst h
    rw [if_pos rfl]
    have := t.xc j hj
    simp [go_sem, this]
  · rw [if_neg h]
    have := t.xc j hj
    rw [← this]
    simp [go_sem, this, h, Ne.symm h]
theorem Rows8.congr {w : World} {R gX gY : Nat} {x x' y : Nat → Int} {W : World} (t : Rows8 w R gX gY x y W) (h : ∀ j, j < 8 → x j = x' j) : Rows8 w R gX gY x' y W :=
  ⟨fun j hj => by rw [← h j hj]; exact t.xc j hj, t.xf, t.yc, t.r0, t.r1, t.f0, t.f1, t.ne, t.nr, t.ge, t.bl⟩
/-- Digits of c below k, of a from there on. -/
@[irreducible] def mix (c a k j : Nat) : Int := if j < k then dg c j else dg a j
theorem mix_zero (c a j : Nat) : mix c a 0 j = dg a j := by unfold mix; rw [if_neg (by omega)]
theorem mix_end (c a j : Nat) (h : j < 8) : mix c a 8 j = dg c j := by unfold mix; rw [if_pos h]
theorem mix_at (c a k : Nat) : mix c a k k = dg a k := by unfold mix; rw [if_neg (by omega)]
theorem mix_succ (c a k j : Nat) : (if j = k then dg c k else mix c a k j) = mix c a (k + 1) j := by
  unfold mix
  by_cases h : j = k
  · subst h; rw [if_pos rfl, if_pos (by omega)]
  · rw [if_neg h]
    by_cases l : j < k
    · rw [if_pos l, if_pos (by omega)]
    · rw [if_neg l, if_neg (by omega)]

end Go.Proofs.Ytnkhgkpijfohkaa.Wd
namespace Go.Proofs.Ytnkhgkpijfohkaa.Wd
set_option linter.unusedVariables false
theorem pow8 : (65536 : Nat) ^ 8 = 340282366920938463463374607431768211456 := by decide
theorem mod8 {b : Nat} (h : Fits b) : b % 65536 ^ 8 = b := by rw [pow8]; unfold Fits at h; exact Nat.mod_eq_of_lt h
/-- The number of the first m digits. -/
def sumTo (d : Nat → Nat) : Nat → Nat
  | 0 => 0
  | m + 1 => sumTo d m + d m * 65536 ^ m
def upd (d : Nat → Nat) (p v : Nat) : Nat → Nat := fun j => if j = p then v else d j
theorem sumTo_far (d : Nat → Nat) (p v : Nat) : ∀ m, m ≤ p → sumTo (upd d p v) m = sumTo d m
  | 0, _ => rfl
  | m + 1, h => by
    have e : upd d p v m = d m := by unfold upd; rw [if_neg (by omega)]
    rw [sumTo, sumTo, sumTo_far d p v m (by omega), e]
theorem sumTo_upd (d : Nat → Nat) (p v : Nat) : ∀ m, p < m → sumTo (upd d p v) m + d p * 65536 ^ p = sumTo d m + v * 65536 ^ p
  | 0, h => by omega
  | m + 1, h => by
    rw [sumTo, sumTo]
    by_cases e : p = m
    · subst e
      have e : upd d p v p = v := by unfold upd; rw [if_pos rfl]
      rw [sumTo_far d p v p (Nat.le_refl _), e]
      omega
    · have e : upd d p v m = d m := by unfold upd; rw [if_neg (by omega)]
      have := sumTo_upd d p v m (by omega)
      rw [e]
      omega
theorem sumTo_zero : ∀ m, sumTo (fun _ => 0) m = 0
  | 0 => rfl
  | m + 1 => by rw [sumTo, sumTo_zero m]; simp
theorem sumTo_ge (d : Nat → Nat) (p : Nat) : ∀ m, p < m → d p * 65536 ^ p ≤ sumTo d m
  | 0, h => by omega
  | m + 1, h => by
    rw [sumTo]
    by_cases e : p = m
    · subst e; omega
    · have := sumTo_ge d p m (by omega); omega
/-- What holds at the head of a round of the inner loop. -/
structure Part16 (a b i k o : Nat) (d : Nat → Nat) : Prop where
  lt : ∀ j, j < 16 → d j < 65536
  top : ∀ j, i + 8 ≤ j → d j = 0
  ob : o < 65536
  val : sumTo d 16 + o * 65536 ^ (i + k) = a % 65536 ^ i * b + dgN a i * (b % 65536 ^ k) * 65536 ^ i
theorem Part16.step {a b i k o : Nat} {d : Nat → Nat} (h : Part16 a b i k o d) (hi : i < 8) (hk : k < 8) : Part16 a b i (k + 1) ((d (i + k) + dgN a i * dgN b k + o) / 65536) (upd d (i + k) ((d (i + k) + dgN a i * dgN b k + o) % 65536)) := by
  have l1 := dgN_lt a i
  have l2 := dgN_lt b k
  have l3 := h.lt (i + k) (by omega)
  have l4 := h.ob
  have l5 : dgN a i * dgN b k ≤ 65535 * 65535 := Nat.mul_le_mul (by omega) (by omega)
  refine ⟨fun j hj => ?_, fun j hj => ?_, by omega, ?_⟩
  · unfold upd
    by_cases e : j = i + k
    · rw [if_pos e]; exact Nat.mod_lt _ (by decide)
    · rw [if_neg e]; exact h.lt j hj
  · unfold upd
    rw [if_neg (by omega)]
    exact h.top j hj
  · have u := sumTo_upd d (i + k) ((d (i + k) + dgN a i * dgN b k + o) % 65536) 16 (by omega)
    have v := h.val
    have m := mod_step b k
    have p1 : (65536 : Nat) ^ (i + (k + 1)) = 65536 * 65536 ^ (i + k) := by rw [show i + (k + 1) = i + k + 1 from rfl, Nat.pow_succ, Nat.mul_comm]
    have p2 : dgN a i * (b % 65536 ^ (k + 1)) * 65536 ^ i = dgN a i * (b % 65536 ^ k) * 65536 ^ i + dgN a i * dgN b k * 65536 ^ (i + k) := by
      rw [m, Nat.mul_add, Nat.add_mul, Nat.pow_add, Nat.mul_comm (65536 ^ i), ← Nat.mul_assoc, ← Nat.mul_assoc]
    rw [p1, p2]
    generalize hN : d (i + k) + dgN a i * dgN b k + o = X at *
    have e : X / 65536 * 65536 + X % 65536 = X := by omega
    have e2 : X / 65536 * (65536 * 65536 ^ (i + k)) + X % 65536 * 65536 ^ (i + k) = X * 65536 ^ (i + k) := by
      rw [← Nat.mul_assoc, ← Nat.add_mul, e]
    have e3 : X * 65536 ^ (i + k) = d (i + k) * 65536 ^ (i + k) + dgN a i * dgN b k * 65536 ^ (i + k) + o * 65536 ^ (i + k) := by
      rw [← hN, Nat.add_mul, Nat.add_mul]
    omega
theorem Part16.row {a b i o : Nat} {d : Nat → Nat} (h : Part16 a b i 8 o d) (hi : i < 8) (hb : Fits b) : Part16 a b (i + 1) 0 0 (upd d (i + 8) o) := by
  have hz := h.top (i + 8) (by omega)
  refine ⟨fun j hj => ?_, fun j hj => ?_, by decide, ?_⟩
  · unfold upd
    by_cases e : j = i + 8
    · rw [if_pos e]; exact h.ob
    · rw [if_neg e]; exact h.lt j hj
  · unfold upd
    rw [if_neg (by omega)]
    exact h.top j (by omega)
  · have u := sumTo_upd d (i + 8) o 16 (by omega)
    have v := h.val
    have m := mod_step a i
    rw [mod8 hb] at v
    rw [hz] at u
    have p : (a % 65536 ^ i + dgN a i * 65536 ^ i) * b = a % 65536 ^ i * b + dgN a i * b * 65536 ^ i := by
      rw [Nat.add_mul, Nat.mul_right_comm]
    rw [m, p, Nat.pow_zero, Nat.mod_one, Nat.mul_zero, Nat.zero_mul, Nat.add_zero, Nat.add_zero]
    rw [Nat.zero_mul, Nat.add_zero] at u
    generalize sumTo d 16 = s1 at *
    generalize sumTo (upd d (i + 8) o) 16 = s2 at *
    omega
theorem Part16.start (a b : Nat) : Part16 a b 0 0 0 (fun _ => 0) := by
  refine ⟨fun _ _ => by decide, fun _ _ => rfl, by decide, ?_⟩
  rw [sumTo_zero, Nat.pow_zero, Nat.mod_one, Nat.mod_one, Nat.zero_mul, Nat.zero_mul, Nat.mul_zero, Nat.zero_mul]
theorem Part16.whole {a b : Nat} {d : Nat → Nat} (h : Part16 a b 8 0 0 d) (ha : Fits a) : sumTo d 16 = a * b := by
  have v := h.val
  rw [mod8 ha, Nat.pow_zero, Nat.mod_one, Nat.mul_zero, Nat.zero_mul, Nat.add_zero, Nat.add_zero] at v
  exact v
theorem Part16.great {a b : Nat} {d : Nat → Nat} (h : Part16 a b 8 0 0 d) (ha : Fits a) (j : Nat) (hj : j < 8) (hd : 0 < d (8 + j)) : ¬ Fits (a * b) := by
  have e := h.whole ha
  have g := sumTo_ge d (8 + j) 16 (by omega)
  have p : 65536 ^ 8 ≤ 65536 ^ (8 + j) := Nat.pow_le_pow_right (by decide) (by omega)
  have q : 1 * 65536 ^ (8 + j) ≤ d (8 + j) * 65536 ^ (8 + j) := Nat.mul_le_mul_right _ hd
  rw [pow8] at p
  rw [e] at g
  clear h e
  intro f
  unfold Fits at f
  generalize 65536 ^ (8 + j) = z at *
  generalize d (8 + j) * z = y at *
  omega
theorem sumTo_cut (d : Nat → Nat) (hz : ∀ j, j < 8 → d (8 + j) = 0) : ∀ m, m ≤ 8 → sumTo d (8 + m) = sumTo d 8
  | 0, _ => rfl
  | m + 1, h => by
    show sumTo d (8 + m) + d (8 + m) * 65536 ^ (8 + m) = _
    rw [hz m (by omega), sumTo_cut d hz m (by omega), Nat.zero_mul, Nat.add_zero]
theorem sumTo_eight (d : Nat → Nat) : sumTo d 8 = num (fun j => (d j : Int)) := by
  have e : sumTo d 8 = 0 + d 0 * 65536 ^ 0 + d 1 * 65536 ^ 1 + d 2 * 65536 ^ 2 + d 3 * 65536 ^ 3 + d 4 * 65536 ^ 4 + d 5 * 65536 ^ 5 + d 6 * 65536 ^ 6 + d 7 * 65536 ^ 7 := rfl
  rw [e]
  unfold num
  simp only [Int.toNat_natCast, Nat.reducePow]
  omega
theorem Part16.small {a b : Nat} {d : Nat → Nat} (h : Part16 a b 8 0 0 d) (ha : Fits a) (hz : ∀ j, j < 8 → d (8 + j) = 0) : num (fun j => (d j : Int)) = a * b ∧ Fits (a * b) := by
  have e := h.whole ha
  have c := sumTo_cut d hz 8 (Nat.le_refl _)
  have f : num (fun j => (d j : Int)) = a * b := by
    rw [← e, ← sumTo_eight]
    exact c.symm
  refine ⟨f, ?_⟩
  rw [← f]
  exact (num_words (fun j => (d j : Int)) (fun j hj => ⟨by omega, by have := h.lt j (by omega); omega⟩)).1
end Go.Proofs.Ytnkhgkpijfohkaa.Wd
namespace Go.Proofs.Ytnkhgkpijfohkaa.Wd
open Go.RowKit
set_option linter.unusedSimpArgs false
set_option linter.unusedVariables false

/-- Three rows of digits, the third of which may be written, and the result's block. -/
structure Rows16 (w : World) (R gX gY gO : Nat) (x y : Nat → Int) (d : Nat → Nat) (wx : World) : Prop where
  xc : ∀ j, j < 8 → wx.cell? ⟨gX, j, none⟩ = some (.int .u64 (x j))
  yc : ∀ j, j < 8 → wx.cell? ⟨gY, j, none⟩ = some (.int .u64 (y j))
  oc : ∀ j, j < 16 → wx.cell? ⟨gO, j, none⟩ = some (.int .u64 (d j : Int))
  om : ∀ j, j < 16 → wx.frozen? ⟨gO, j, none⟩ = false
  r0 : wx.cell? ⟨R, 0, none⟩ = some (.int .u64 0)
  r1 : wx.cell? ⟨R, 1, none⟩ = some (.int .u64 0)
  f0 : wx.frozen? ⟨R, 0, none⟩ = false
  f1 : wx.frozen? ⟨R, 1, none⟩ = false
  nx : gO ≠ gX
  ny : gO ≠ gY
  nr : gO ≠ R
  ge : w.heap.size ≤ gO
  bl : Below w.heap.size w wx
theorem Rows16.drewN {w : World} {R gX gY gO : Nat} {x y : Nat → Int} {d : Nat → Nat} {W : World} (t : Rows16 w R gX gY gO x y d W) (n : Nat) : Rows16 w R gX gY gO x y d (W.drewN n) := ⟨t.xc, t.yc, t.oc, t.om, t.r0, t.r1, t.f0, t.f1, t.nx, t.ny, t.nr, t.ge, below_drewN t.bl n⟩
theorem Rows16.next {w : World} {R gX gY gO : Nat} {x y : Nat → Int} {d : Nat → Nat} {W w1 : World} (t : Rows16 w R gX gY gO x y d W) (hb : Below W.heap.size W w1) : Rows16 w R gX gY gO x y d w1 :=
  ⟨fun j hj => keep_cell hb (t.xc j hj), fun j hj => keep_cell hb (t.yc j hj), fun j hj => keep_cell hb (t.oc j hj), fun j hj => keep_melt hb (t.oc j hj) (t.om j hj), keep_cell hb t.r0, keep_cell hb t.r1, keep_melt hb t.r0 t.f0, keep_melt hb t.r1 t.f1, t.nx, t.ny, t.nr, t.ge, below_step t.bl hb⟩
theorem Rows16.put {w : World} {R gX gY gO : Nat} {x y : Nat → Int} {d : Nat → Nat} {W : World} (t : Rows16 w R gX gY gO x y d W) (k : Nat) (hk : k < 16) (v : Nat) : Rows16 w R gX gY gO x y (upd d k v) (W.setCell ⟨gO, k, none⟩ (.int .u64 (v : Int))) := by
  refine ⟨fun j hj => keep_set (t.xc j hj) _ (Ne.symm t.nx), fun j hj => keep_set (t.yc j hj) _ (Ne.symm t.ny), ?_, fun j hj => (World.frozen?_setCell _ _ _ _).trans (t.om j hj), keep_set t.r0 _ (Ne.symm t.nr), keep_set t.r1 _ (Ne.symm t.nr), (World.frozen?_setCell _ _ _ _).trans t.f0, (World.frozen?_setCell _ _ _ _).trans t.f1, t.nx, t.ny, t.nr, t.ge, t.bl.setCell t.ge _⟩
  intro j hj
  unfold upd
  by_cases h : j = k
  · subst h
    rw [if_pos rfl]
    have := t.oc j hj
    simp [go_sem, this]
  · rw [if_neg h]
    have := t.oc j hj
    rw [← this]
    simp [go_sem, this, h, Ne.symm h]

/-- The lower digits as far as they are laid. -/
@[irreducible] def low (d : Nat → Nat) (k j : Nat) : Int := if j < k then (d j : Int) else 0
theorem low_zero (d : Nat → Nat) (j : Nat) : low d 0 j = 0 := by unfold low; rw [if_neg (by omega)]
theorem low_end (d : Nat → Nat) (j : Nat) (h : j < 8) : low d 8 j = (d j : Int) := by unfold low; rw [if_pos h]
structure LowRow (w : World) (R gO gL : Nat) (d : Nat → Nat) (k : Nat) (wx : World) : Prop where
  lc : ∀ j, j < 8 → wx.cell? ⟨gL, j, none⟩ = some (.int .u64 (low d k j))
  lm : ∀ j, j < 8 → wx.frozen? ⟨gL, j, none⟩ = false
  no : gL ≠ gO
  nr : gL ≠ R
  ge : w.heap.size ≤ gL
theorem LowRow.put {w : World} {R gX gY gO gL : Nat} {x y : Nat → Int} {d : Nat → Nat} {k : Nat} {W : World} (t : LowRow w R gO gL d k W) (r : Rows16 w R gX gY gO x y d W) (nx : gL ≠ gX) (ny : gL ≠ gY) (hk : k < 8) :
    LowRow w R gO gL d (k + 1) (W.setCell ⟨gL, k, none⟩ (.int .u64 (d k : Int))) ∧ Rows16 w R gX gY gO x y d (W.setCell ⟨gL, k, none⟩ (.int .u64 (d k : Int))) := by
  refine ⟨⟨?_, fun j hj => (World.frozen?_setCell _ _ _ _).trans (t.lm j hj), t.no, t.nr, t.ge⟩, ⟨fun j hj => keep_set (r.xc j hj) _ (Ne.symm nx), fun j hj => keep_set (r.yc j hj) _ (Ne.symm ny), fun j hj => keep_set (r.oc j hj) _ (Ne.symm t.no), fun j hj => (World.frozen?_setCell _ _ _ _).trans (r.om j hj), keep_set r.r0 _ (Ne.symm t.nr), keep_set r.r1 _ (Ne.symm t.nr), (World.frozen?_setCell _ _ _ _).trans r.f0, (World.frozen?_setCell _ _ _ _).trans r.f1, r.nx, r.ny, r.nr, r.ge, r.bl.setCell t.ge _⟩⟩
  intro j hj
  by_cases h : j = k
  · subst h
    have := t.lc j hj
    have e : low d (j + 1) j = (d j : Int) := by unfold low; rw [if_pos (by omega)]
    rw [e]
    simp [go_sem, this]
  · have := t.lc j hj
    have e : low d (k + 1) j = low d k j := by
      unfold low
      by_cases l : j < k
      · rw [if_pos l, if_pos (by omega)]
      · rw [if_neg l, if_neg (by omega)]
    rw [e, ← this]
    simp [go_sem, this, h, Ne.symm h]

set_option maxHeartbeats 8000000 in
set_option maxRecDepth 100000 in
theorem refMul_any (a b : Nat) (ha : Fits a) (hb : Fits b) (w : World) : Calls Try.prog 46 #[U a, U b] w fun e w' => e = .returned (.tuple #[U (cut (a * b)), .bool (fitsB (a * b))]) ∧ Below w.heap.size w w' := by
  go_enter Try.func46, Try.ntmps46
  go_upto_region 1 with fail
  have S := Three.start w a b (.int .u64 0) (.int .u64 0)
  generalize ((w.alloc (.cells #[.int .u64 (hi a), .int .u64 (lo a)] 59)).alloc (.cells #[.int .u64 (hi b), .int .u64 (lo b)] 59)).alloc (.cells #[.int .u64 0, .int .u64 0] 59) = W at *
  have a0 := S.a0; have a1 := S.a1; have b0 := S.b0; have b1 := S.b1
  go_cut [6, 7] (fun s6 s7 wx => Both W a b s6 s7 wx)
  case first =>
    go_region_held3 (fun w' => w'.cell? ⟨w.heap.size, 0, none⟩ = some (.int .u64 (hi a)) ∧ w'.cell? ⟨w.heap.size, 1, none⟩ = some (.int .u64 (lo a)) ∧ w'.cell? ⟨w.heap.size + 1, 0, none⟩ = some (.int .u64 (hi b)) ∧ w'.cell? ⟨w.heap.size + 1, 1, none⟩ = some (.int .u64 (lo b)))
      ((refine ⟨?_, ?_, ?_, ?_⟩ <;> (repeat (first | with_reducible exact a0 | with_reducible exact a1 | with_reducible exact b0 | with_reducible exact b1 | with_reducible refine keep_alloc ?_ _ | with_reducible refine keep_drew ?_))))
      (first
        | (go_at_call 45; refine (digits_any _ (by assumption) _).mono ?_; rintro e w1 ⟨rfl, c1, c2, c3, rfl⟩))
    all_goals go_wp2_with fail
    all_goals go_meet
    all_goals go_light
    all_goals refine ⟨_, _, rfl, rfl, ?_, ?_, ?_, ?_, ?_, ?_⟩
    all_goals first
      | omega
      | (repeat (first
        | (with_reducible refine Blk.new _ ?_; (· ((try simp only [World.size_alloc, World.size_drew]); done)))
        | with_reducible refine Blk.old ?_ _ | with_reducible refine Blk.drew ?_
        | exact Below.refl _ _ | with_reducible refine Below.drew ?_ | (with_reducible refine Below.alloc ?_ ?_ _; rotate_left; (· ((try simp only [World.size_alloc, World.size_drew]); omega)))))
  case rest =>
    obtain ⟨gX, gY, rfl, rfl, BX, BY, gne, gx, gy, bl⟩ := hcut
    go_upto_region 3 with fail
    have S' := (S.next bl).alloc (.cells (Array.replicate 16 (.int .u64 0)) 70)
    have sz := (S.next bl).sz
    have T0 : Rows16 w (w.heap.size + 1 + 1) gX gY wc.heap.size (dg a) (dg b) (fun _ => 0) (wc.alloc (.cells (Array.replicate 16 (.int .u64 0)) 70)) := by
      refine ⟨fun j hj => keep_alloc (BX.cell j hj) _, fun j hj => keep_alloc (BY.cell j hj) _, fun j hj => ?_, fun j _ => ?_, S'.r0, S'.r1, S'.m0, S'.m1, Ne.symm (Nat.ne_of_lt BX.lt), Ne.symm (Nat.ne_of_lt BY.lt), by omega, by omega, S'.bl⟩
      · rw [World.cell?_alloc_mark wc (Array.replicate 16 (.int .u64 0)) 70 (0, 0) j]
        simp [hj]
      · rw [frozen?_alloc_cells]
        have e : wc.heap[wc.heap.size]? = none := by simp
        simp [World.frozen?, e]
    have T1 : Rows16 w (w.heap.size + 1 + 1) gX gY wc.heap.size (dg a) (dg b) (fun _ => 0) (wc.alloc (.cells #[.int .u64 0, .int .u64 0, .int .u64 0, .int .u64 0, .int .u64 0, .int .u64 0, .int .u64 0, .int .u64 0, .int .u64 0, .int .u64 0, .int .u64 0, .int .u64 0, .int .u64 0, .int .u64 0, .int .u64 0, .int .u64 0] 70)) := T0
    generalize wc.alloc (.cells #[.int .u64 0, .int .u64 0, .int .u64 0, .int .u64 0, .int .u64 0, .int .u64 0, .int .u64 0, .int .u64 0, .int .u64 0, .int .u64 0, .int .u64 0, .int .u64 0, .int .u64 0, .int .u64 0, .int .u64 0, .int .u64 0] 70) = W1 at *
    generalize wc.heap.size = gO at *
    clear T0 S' sz S BX BY gne gx gy bl a0 a1 b0 b1
    go_wp2_with fail
    go_loopg [9, 10, 11, 12] 8 (fun g s9 _ _ _ wr => ∃ (i : Nat) (d : Nat → Nat), i + g = 8 ∧ s9 = .int .i64 (i : Int) ∧ Hid (Part16 a b i 0 0 d) ∧ Rows16 w (w.heap.size + 1 + 1) gX gY gO (dg a) (dg b) d wr)
    case atStart => exact ⟨0, _, rfl, rfl, Part16.start a b, T1⟩
    case round =>
      clear T1
      obtain ⟨i, d, hg, rfl, P, T⟩ := hrel
      have HG := Lib.hid hg
      clear hg
      by_cases lt : i < 8
      · have i8 : (i : Int) < 8 := by omega
        go_wp2_with fail
        go_loopg [10, 11, 12] 8 (fun g s10 s11 _ wr => ∃ (k o : Nat) (d : Nat → Nat), k + g = 8 ∧ s11 = .int .i64 (k : Int) ∧ s10 = .int .u64 (o : Int) ∧ Hid (Part16 a b i k o d) ∧ Rows16 w (w.heap.size + 1 + 1) gX gY gO (dg a) (dg b) d wr)
        case atStart => exact ⟨0, 0, d, rfl, rfl, rfl, P, T⟩
        case round =>
          clear P T d
          obtain ⟨k, o, d, hg2, rfl, rfl, P, T⟩ := hrel
          have HG2 := Lib.hid hg2
          clear hg2
          by_cases lt2 : k < 8
          · have k8 : (k : Int) < 8 := by omega
            have x0 := T.xc i lt; have y0 := T.yc k lt2; have o0 := T.oc (i + k) (by omega); have om := T.om (i + k) (by omega)
            obtain ⟨X, hX⟩ : ∃ X, d (i + k) + dgN a i * dgN b k + o = X := ⟨_, rfl⟩
            have P2 := Lib.hid (P.out.step lt lt2)
            rw [hX] at P2
            have bd1 := P.out.lt (i + k) (by omega)
            have bd2 := P.out.ob
            have l1 := dgN_lt a i
            have l2 := dgN_lt b k
            have l5 : dgN a i * dgN b k ≤ 65535 * 65535 := Nat.mul_le_mul (by omega) (by omega)
            have em : dg a i * dg b k = ((dgN a i * dgN b k : Nat) : Int) := by rw [dg_nat, dg_nat]; exact (Int.natCast_mul _ _).symm
            have E1 : Hid (IntKind.u64.wrap (IntKind.u64.wrap ((d (i + k) : Int) + IntKind.u64.wrap (dg a i * dg b k)) + (o : Int)) = (X : Int)) := by
              unfold Hid
              rw [em, IntKind.wrap_u64, IntKind.wrap_u64, IntKind.wrap_u64]
              generalize dgN a i * dgN b k = m at *
              omega
            have E2 : Hid ((X : Int).tmod 65536 = ((X % 65536 : Nat) : Int)) := by unfold Hid; rw [Int.tmod_eq_emod_of_nonneg (by omega)]; omega
            have E3 : Hid (IntKind.u64.wrap ((X : Int).tdiv 65536) = ((X / 65536 : Nat) : Int)) := by
              unfold Hid
              rw [Int.tdiv_eq_ediv_of_nonneg (by omega), IntKind.wrap_u64]
              generalize dgN a i * dgN b k = m at *
              omega
            clear hX bd1 bd2 l1 l2 l5 em P
            have w1 : IntKind.i64.wrap ((i : Int) + (k : Int)) = (i : Int) + (k : Int) := by
              simp [IntKind.wrap, IntKind.bits, IntKind.signed]; omega
            have w2 : 0 ≤ (i : Int) + (k : Int) := by omega
            have w3 : ((i : Int) + (k : Int)).toNat = i + k := by omega
            have w4 : (i : Int) + (k : Int) < 16 := by omega
            go_wp2_with fail
            go_quiet (fail)
            go_wp2_with fail
            go_roundg (gk - 1)
            case measure => have := HG2.out; omega
            case rel =>
              go_light
              refine ⟨k + 1, _, _, by have := HG2.out; omega, by go_num, by rw [E1.out, E3.out], P2, ?_⟩
              rw [E1.out, E2.out]
              exact (T.drewN nq).put (i + k) (by omega) _
          · have e8 : k = 8 := by have := HG2.out; omega
            subst e8
            have k8 : ¬ ((8 : Nat) : Int) < 8 := by decide
            have P2 := Lib.hid (P.out.row lt hb)
            have o0 := T.oc (i + 8) (by omega); have om := T.om (i + 8) (by omega)
            have w3 : ((i : Int) + 8).toNat = i + 8 := by omega
            clear P lt2 HG2
            go_wp2_with fail
            go_roundg (7 - i)
            case measure => have := HG.out; omega
            case rel =>
              go_light
              exact ⟨i + 1, _, by have := HG.out; omega, by go_num, P2, T.put (i + 8) (by omega) o⟩
      · have e8 : i = 8 := by have := HG.out; omega
        subst e8
        have i8 : ¬ ((8 : Nat) : Int) < 8 := by decide
        clear lt HG
        go_upto_region 15 with fail
        have zx := cell_lt (T.xc 0 (by decide)); have zy := cell_lt (T.yc 0 (by decide)); have zo := cell_lt (T.oc 0 (by decide)); have zr := cell_lt T.r0
        simp only [] at zx zy zo zr
        have T2 := T.next ((Below.refl _ _).alloc (Nat.le_refl _) (.cells #[.int .u64 0, .int .u64 0, .int .u64 0, .int .u64 0, .int .u64 0, .int .u64 0, .int .u64 0, .int .u64 0] 65))
        have LR : LowRow w (w.heap.size + 1 + 1) gO wr.heap.size d 0 (wr.alloc (.cells #[.int .u64 0, .int .u64 0, .int .u64 0, .int .u64 0, .int .u64 0, .int .u64 0, .int .u64 0, .int .u64 0] 65)) := by
          have BL : Blk (wr.alloc (.cells #[.int .u64 0, .int .u64 0, .int .u64 0, .int .u64 0, .int .u64 0, .int .u64 0, .int .u64 0, .int .u64 0] 65)) wr.heap.size (fun _ => 0) := Blk.new (fun _ => 0) rfl
          exact ⟨fun j hj => by rw [low_zero]; exact BL.cell j hj, fun j _ => BL.melt j, by omega, by omega, by omega⟩
        have nx : wr.heap.size ≠ gX := by omega
        have ny : wr.heap.size ≠ gY := by omega
        generalize wr.alloc (.cells #[.int .u64 0, .int .u64 0, .int .u64 0, .int .u64 0, .int .u64 0, .int .u64 0, .int .u64 0, .int .u64 0] 65) = W2 at *
        generalize wr.heap.size = gL at *
        clear zx zy zo zr T
        go_wp2_with fail
        go_loopg [14] 8 (fun g s14 wr => ∃ k : Nat, k + g = 8 ∧ s14 = .int .i64 (k : Int) ∧ Hid (∀ j, j < k → d (8 + j) = 0) ∧ Rows16 w (w.heap.size + 1 + 1) gX gY gO (dg a) (dg b) d wr ∧ LowRow w (w.heap.size + 1 + 1) gO gL d k wr)
        case atStart => exact ⟨0, rfl, rfl, fun j h => by omega, T2, LR⟩
        case round =>
          clear T2 LR
          obtain ⟨k, hg, rfl, Z, T, LR⟩ := hrel
          have HG := Lib.hid hg
          clear hg
          have r0 := T.r0; have r1 := T.r1; have f0 := T.f0; have f1 := T.f1
          by_cases lt : k < 8
          · have k8 : (k : Int) < 8 := by omega
            have o0 := T.oc k (by omega); have o1 := T.oc (8 + k) (by omega)
            have l0 := LR.lc k lt; have lm := LR.lm k lt
            have w3 : (8 + (k : Int)).toNat = 8 + k := by omega
            by_cases dz : d (8 + k) = 0
            · have dz' : ¬ (0 : Int) < (d (8 + k) : Int) := by omega
              have Z2 : Hid (∀ j, j < k + 1 → d (8 + j) = 0) := by
                intro j hj
                by_cases e : j = k
                · subst e; exact dz
                · exact Z.out j (by omega)
              clear Z
              go_wp2_with fail
              go_roundg (gk - 1)
              case measure => have := HG.out; omega
              case rel =>
                go_light
                have pu := LR.put T nx ny lt
                exact ⟨k + 1, by have := HG.out; omega, by go_num, Z2, pu.2, pu.1⟩
            · have dz' : (0 : Int) < (d (8 + k) : Int) := by omega
              have nf := P.out.great ha k lt (by omega)
              have E1 := Lib.hid (cut_no nf); have E2 := Lib.hid (fitsB_no nf)
              clear nf dz Z
              go_wp2_with fail
              go_light
              exact bodyPost_ret (v := .tuple #[U 0, .bool false]) (by simp [results, Try.results46, go_sem, hi_zero, lo_zero, r0, r1]) rfl ⟨by rw [E1.out, E2.out], (T.bl.setCell (by simp only []; omega) _).setCell (by simp only []; omega) _⟩
          · have e8 : k = 8 := by have := HG.out; omega
            subst e8
            have k8 : ¬ ((8 : Nat) : Int) < 8 := by decide
            obtain ⟨pn, pf⟩ := P.out.small ha (fun j hj => Z.out j hj)
            have E1 := Lib.hid (cut_yes pf); have E2 := Lib.hid (fitsB_yes pf)
            have K := Lib.hid (number_any (fun j => (d j : Int)) (fun j hj => ⟨by omega, by have := P.out.lt j (by omega); omega⟩))
            rw [pn] at K
            have x0 := LR.lc 0 (by decide); have x1 := LR.lc 1 (by decide); have x2 := LR.lc 2 (by decide); have x3 := LR.lc 3 (by decide); have x4 := LR.lc 4 (by decide); have x5 := LR.lc 5 (by decide); have x6 := LR.lc 6 (by decide); have x7 := LR.lc 7 (by decide)
            rw [low_end _ _ (by decide)] at x0 x1 x2 x3 x4 x5 x6 x7
            clear pn pf lt HG Z
            go_wp2_with fail
            refine (K.out _).mono ?_
            rintro e w5 ⟨rfl, hb5⟩
            have T5 := T.next hb5
            clear r0 r1 f0 f1 x0 x1 x2 x3 x4 x5 x6 x7
            have r0 := T5.r0; have r1 := T5.r1; have f0 := T5.f0; have f1 := T5.f1
            go_wp2_with fail
            go_light
            exact bodyPost_ret (v := .tuple #[U (a * b), .bool true]) (by simp [results, Try.results46, go_sem, r0, r1]) rfl ⟨by rw [E1.out, E2.out], (T5.bl.setCell (by simp only []; omega) _).setCell (by simp only []; omega) _⟩
end Go.Proofs.Ytnkhgkpijfohkaa.Wd
namespace Go.Proofs.Ytnkhgkpijfohkaa
open Go.RowKit

theorem getLast_ne {xs : List Nat} {x : Nat} (h : xs[xs.length - 1]? = some x) (hx : x ≠ 0) : ∀ hn : xs ≠ [], xs.getLast hn ≠ 0 := by
  intro hn
  rw [List.getLast_eq_getElem]
  have := (List.getElem?_eq_some_iff.1 h).2
  rw [this]; exact hx

/-- A slice of the same limbs, there or nowhere. -/
def RetA (A : Option Addr) (xs : List Nat) (w : World) (e : Ending) (w' : World) : Prop := ∃ A' n' c', e = .returned (.slice A' n' c') ∧ Lim w A' n' c' (limbs (val xs)) ∧ (∀ ad, A' = some ad → A = some ad) ∧ w = w'
end Go.Proofs.Ytnkhgkpijfohkaa
namespace Go.Proofs.Ytnkhgkpijfohkaa
open Go.RowKit

theorem drew3 (w : World) (a b c : Nat) : ∃ k, ((w.drewN a).drewN b).drewN c = w.drewN k := ⟨_, by rw [World.drewN_drewN, World.drewN_drewN]⟩
end Go.Proofs.Ytnkhgkpijfohkaa
namespace Go.Proofs.Ytnkhgkpijfohkaa
open Go

theorem ofInt_u32 (a : Nat) (ha : a < 4294967296) : (BitVec.ofInt 32 (a : Int)).toNat = a := by
  rw [BitVec.ofInt_natCast, BitVec.toNat_ofNat]; exact Nat.mod_eq_of_lt (by omega)
theorem ofInt_u64 (a : Nat) (ha : a < 18446744073709551616) : (BitVec.ofInt 64 (a : Int)).toNat = a := by
  rw [BitVec.ofInt_natCast, BitVec.toNat_ofNat]; exact Nat.mod_eq_of_lt (by omega)
theorem u32_and_nat (a b : Nat) (ha : a < 4294967296) (hb : b < 4294967296) : bits .and .u32 (a : Int) (b : Int) = ((a &&& b : Nat) : Int) := by
  have hx : a &&& b < 2 ^ 32 := Nat.and_lt_two_pow _ (by omega)
  show IntKind.u32.wrap ((BitVec.ofInt 32 (a : Int) &&& BitVec.ofInt 32 (b : Int)).toNat : Int) = _
  rw [BitVec.toNat_and, ofInt_u32 a ha, ofInt_u32 b hb, IntKind.wrap_u32]
  omega
theorem u32_or_nat (a b : Nat) (ha : a < 4294967296) (hb : b < 4294967296) : bits .or .u32 (a : Int) (b : Int) = ((a ||| b : Nat) : Int) := by
  have hx : a ||| b < 2 ^ 32 := Nat.or_lt_two_pow (by omega) (by omega)
  show IntKind.u32.wrap ((BitVec.ofInt 32 (a : Int) ||| BitVec.ofInt 32 (b : Int)).toNat : Int) = _
  rw [BitVec.toNat_or, ofInt_u32 a ha, ofInt_u32 b hb, IntKind.wrap_u32]
  omega
theorem u32_xor_nat (a b : Nat) (ha : a < 4294967296) (hb : b < 4294967296) : bits .xor .u32 (a : Int) (b : Int) = ((a ^^^ b : Nat) : Int) := by
  have hx : a ^^^ b < 2 ^ 32 := Nat.xor_lt_two_pow (by omega) (by omega)
  show IntKind.u32.wrap ((BitVec.ofInt 32 (a : Int) ^^^ BitVec.ofInt 32 (b : Int)).toNat : Int) = _
  rw [BitVec.toNat_xor, ofInt_u32 a ha, ofInt_u32 b hb, IntKind.wrap_u32]
  omega
theorem u64_or_nat (a b : Nat) (ha : a < 18446744073709551616) (hb : b < 18446744073709551616) : bits .or .u64 (a : Int) (b : Int) = ((a ||| b : Nat) : Int) := by
  have hx : a ||| b < 2 ^ 64 := Nat.or_lt_two_pow (by omega) (by omega)
  show IntKind.u64.wrap ((BitVec.ofInt 64 (a : Int) ||| BitVec.ofInt 64 (b : Int)).toNat : Int) = _
  rw [BitVec.toNat_or, ofInt_u64 a ha, ofInt_u64 b hb, IntKind.wrap_u64]
  omega
theorem u32_max : IntKind.u32.max = ((4294967295 : Nat) : Int) := by decide
/-- What lies apart is added. -/
theorem or_apart (x y k : Nat) (hy : y < 2 ^ k) : x * 2 ^ k ||| y = x * 2 ^ k + y := by
  rw [Nat.mul_comm, ← Nat.two_pow_add_eq_or_of_lt hy]
theorem u64_or_up (x y : Nat) (hx : x < 4294967296) (hy : y < 4294967296) : bits .or .u64 ((x : Int) * 4294967296) (y : Int) = (x : Int) * 4294967296 + (y : Int) := by
  have e : (x : Int) * 4294967296 = ((x * 4294967296 : Nat) : Int) := by omega
  rw [e, u64_or_nat _ _ (by omega) (by omega)]
  have := or_apart x y 32 (by omega)
  rw [show (2 : Nat) ^ 32 = 4294967296 by decide] at this
  omega

theorem tb31 (x : Nat) (h : x < 4294967296) : x.testBit 31 = decide (2147483648 ≤ x) := by
  rw [Nat.testBit_eq_decide_div_mod_eq]
  have : x / 2 ^ 31 % 2 = 1 ↔ 2147483648 ≤ x := by omega
  simp only [this]
theorem top31 (x : Nat) (h : x < 4294967296) : x / 2147483648 = if x.testBit 31 = true then 1 else 0 := by
  rw [tb31 x h]
  by_cases k : 2147483648 ≤ x
  · rw [if_pos (by simpa using k)]; omega
  · rw [if_neg (by simpa using k)]; omega
/-- 1 or 0. -/
@[irreducible] def bor (x y : Nat) : Nat := if x < y then 1 else 0
theorem bor_yes {x y : Nat} (h : x < y) : bor x y = 1 := by unfold bor; rw [if_pos h]
theorem bor_no {x y : Nat} (h : ¬ x < y) : bor x y = 0 := by unfold bor; rw [if_neg h]
theorem bor_le (x y : Nat) : bor x y ≤ 1 := by unfold bor; split <;> omega
theorem borrow_top (x y c d : Nat) (hx : x < 4294967296) (hy : y < 4294967296) (hc : c ≤ 1) (hd : d = (x + 4294967296 + 4294967296 - y - c) % 4294967296) :
    (((4294967295 ^^^ x) &&& y) ||| ((4294967295 ^^^ (x ^^^ y)) &&& d)) / 2147483648 = bor x (y + c) := by
  have hd' : d < 4294967296 := by rw [hd]; exact Nat.mod_lt _ (by decide)
  have l1 : (4294967295 ^^^ x) &&& y < 2 ^ 32 := Nat.and_lt_two_pow _ (by omega)
  have l2 : (4294967295 ^^^ (x ^^^ y)) &&& d < 2 ^ 32 := Nat.and_lt_two_pow _ (by omega)
  rw [top31 _ (Nat.or_lt_two_pow l1 l2), Nat.testBit_or, Nat.testBit_and, Nat.testBit_and, Nat.testBit_xor, Nat.testBit_xor, Nat.testBit_xor, tb31 x hx, tb31 y hy, tb31 d hd', show (4294967295 : Nat).testBit 31 = true by decide]
  unfold bor
  by_cases a : 2147483648 ≤ x <;> by_cases b : 2147483648 ≤ y <;> by_cases e : 2147483648 ≤ d <;> simp [a, b, e] <;> omega

/-- How many bits a number has. -/
def bl (n : Nat) : Nat := if h : n = 0 then 0 else bl (n / 2) + 1
termination_by n
decreasing_by exact Nat.div_lt_self (Nat.pos_of_ne_zero h) (by decide)
theorem bl_zero : bl 0 = 0 := by rw [bl]; rfl
theorem bl_pos {n : Nat} (h : n ≠ 0) : bl n = bl (n / 2) + 1 := by rw [bl, dif_neg h]
theorem lt_bl (n : Nat) : n < 2 ^ bl n := by
  induction n using Nat.strongRecOn with
  | _ n ih =>
    by_cases h : n = 0
    · rw [h, bl_zero]; decide
    · rw [bl_pos h, Nat.pow_succ]
      have := ih (n / 2) (Nat.div_lt_self (Nat.pos_of_ne_zero h) (by decide))
      omega
theorem le_bl {n : Nat} (h : n ≠ 0) : 2 ^ (bl n - 1) ≤ n := by
  induction n using Nat.strongRecOn with
  | _ n ih =>
    rw [bl_pos h, Nat.add_sub_cancel]
    by_cases k : n / 2 = 0
    · rw [k, bl_zero]; simp; omega
    · have := ih (n / 2) (Nat.div_lt_self (Nat.pos_of_ne_zero h) (by decide)) k
      have e := bl_pos k
      rw [e, Nat.add_sub_cancel] at this
      rw [e, Nat.pow_succ]
      omega
theorem pow_lt_pow_iff {a b : Nat} (h : 2 ^ a < 2 ^ b) : a < b := (Nat.pow_lt_pow_iff_right (by decide)).1 h
theorem bl_of {n k : Nat} (h1 : 2 ^ k ≤ n) (h2 : n < 2 ^ (k + 1)) : bl n = k + 1 := by
  have hn : n ≠ 0 := by have := Nat.two_pow_pos k; omega
  have a := lt_bl n
  have b := le_bl hn
  have p1 := pow_lt_pow_iff (Nat.lt_of_le_of_lt h1 a)
  have p2 := pow_lt_pow_iff (Nat.lt_of_le_of_lt b h2)
  have := bl_pos hn
  omega
theorem bl_le {n k : Nat} (h : n < 2 ^ k) : bl n ≤ k := by
  by_cases hn : n = 0
  · rw [hn, bl_zero]; omega
  · have p := pow_lt_pow_iff (Nat.lt_of_le_of_lt (le_bl hn) h)
    omega
theorem bitLen_bl (x : Nat) (h : x < 18446744073709551616) : Lib.bitLen x = bl x := by
  induction x using Nat.strongRecOn with
  | _ x ih =>
    by_cases hx : x = 0
    · subst hx; rw [bl_zero]; decide
    · rw [Lib.bitLen_half x hx (by omega), bl_pos hx, ih (x / 2) (Nat.div_lt_self (Nat.pos_of_ne_zero hx) (by decide)) (by omega), Nat.add_comm]
theorem B_pow (k : Nat) : B ^ k = 2 ^ (32 * k) := by rw [B_eq, show (4294967296 : Nat) = 2 ^ 32 by decide, Nat.pow_mul]
theorem bl_add_mul {t P k x : Nat} (ht : t < 2 ^ k) (hP : P = 2 ^ k) (hx : x ≠ 0) : bl (t + P * x) = k + bl x := by
  have a := lt_bl x
  have b := le_bl hx
  have e := bl_pos hx
  subst hP
  have e2 : k + bl x = (k + (bl x - 1)) + 1 := by omega
  rw [e2]
  refine bl_of ?_ ?_
  · rw [Nat.pow_add]
    have := Nat.mul_le_mul_left (2 ^ k) b
    omega
  · rw [← e2, Nat.pow_add]
    have := Nat.mul_le_mul_left (2 ^ k) (show x + 1 ≤ 2 ^ bl x by omega)
    rw [Nat.mul_add] at this
    omega
theorem bl_limbs {a k : Nat} (hk : k + 1 = (limbs a).length) : bl a = k * 32 + bl ((limbs a)[k]'(by omega)) := by
  have e := val_split (limbs a) k (by omega)
  have d := val_drop (limbs a) k (by omega)
  have z : (limbs a).drop (k + 1) = [] := List.drop_of_length_le (by omega)
  rw [z, val_nil, Nat.mul_zero, Nat.add_zero] at d
  rw [val_limbs, d] at e
  have l := val_take_limbs_lt a k
  conv => lhs; rw [e]
  rw [bl_add_mul (k := 32 * k) (by rw [← B_pow]; exact l) (B_pow k) (last_ne_zero hk), Nat.mul_comm]
end Go.Proofs.Ytnkhgkpijfohkaa
