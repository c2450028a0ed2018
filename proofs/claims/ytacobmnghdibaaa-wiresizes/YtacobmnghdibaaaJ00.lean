/- Plain arithmetic of limbs of 32 bits: no program in sight. Limbs in memory: what a slice of limbs reads as, and what stays. Plain texts: the bytes of a number, seven bits each; which number a text begins with. The document's answers: the walks of Number and bytes. The document's answers: the walks of bytes and value. The document's answers: the walk of number. -/
import Derived.Test.YtacobmnghdibaaaRows
import Derived.WalkKit
import Derived.WalkSpells
import Derived.Lib.Hide
import Derived.Handy
import Derived.Deep.Draws
import Derived.Deep.QuietTactic
import Derived.BigQuiet
import Derived.Deep.RegionHeld3
import Derived.Deep.LoopGhost
import Derived.Deep.Light
import Derived.Deep.CutBlock
import Derived.Deep.DeepCutAuto
import Derived.Deep.RegionWith
import Derived.StillTailTactics
import Derived.IntWalk
import Derived.Laws.Strings2
import Derived.Laws.IdiomStrings
namespace Go.Proofs.Ytacobmnghdibaaa

/-- One more than the greatest limb. -/
@[irreducible] def B : Nat := 4294967296
theorem B_eq : B = 4294967296 := by unfold B; rfl
theorem B_pos : 0 < B := by rw [B_eq]; decide

/-- The number of limbs, the lowest first. -/
def val : List Nat → Nat
  | [] => 0
  | x :: r => x + B * val r
theorem val_nil : val [] = 0 := rfl
theorem val_cons (x : Nat) (r : List Nat) : val (x :: r) = x + B * val r := rfl

/-- Limbs are below B. -/
def Lo (xs : List Nat) : Prop := ∀ x ∈ xs, x < 4294967296
theorem Lo.nil : Lo [] := fun x hx => by cases hx
theorem Lo.cons {x : Nat} {r : List Nat} (h : x < 4294967296) (k : Lo r) : Lo (x :: r) := fun y hy => by
  rcases List.mem_cons.1 hy with rfl | hy
  · exact h
  · exact k y hy
theorem Lo.head {x : Nat} {r : List Nat} (h : Lo (x :: r)) : x < 4294967296 := h x (by simp)
theorem Lo.tail {x : Nat} {r : List Nat} (h : Lo (x :: r)) : Lo r := fun y hy => h y (by simp [hy])
theorem Lo.append {xs ys : List Nat} (h : Lo xs) (k : Lo ys) : Lo (xs ++ ys) := fun y hy => by
  rcases List.mem_append.1 hy with hy | hy
  · exact h y hy
  · exact k y hy
theorem Lo.take {xs : List Nat} (h : Lo xs) (k : Nat) : Lo (xs.take k) := fun y hy => h y (List.mem_of_mem_take hy)
theorem Lo.drop {xs : List Nat} (h : Lo xs) (k : Nat) : Lo (xs.drop k) := fun y hy => h y (List.mem_of_mem_drop hy)
theorem Lo.at_ {xs : List Nat} (h : Lo xs) (k : Nat) (hk : k < xs.length) : xs[k] < 4294967296 := h _ (List.getElem_mem hk)

theorem val_append (xs ys : List Nat) : val (xs ++ ys) = val xs + B ^ xs.length * val ys := by
  induction xs with
  | nil => simp [val_nil]
  | cons x r ih => rw [List.cons_append, val_cons, val_cons, ih, List.length_cons, Nat.pow_succ, Nat.mul_add, Nat.add_assoc, Nat.mul_comm (B ^ r.length) B, Nat.mul_assoc]
theorem val_snoc (xs : List Nat) (y : Nat) : val (xs ++ [y]) = val xs + B ^ xs.length * y := by
  rw [val_append]; simp [val_cons, val_nil]
theorem take_snoc (xs : List Nat) (k : Nat) (h : k < xs.length) : xs.take (k + 1) = xs.take k ++ [xs[k]] := List.take_succ_eq_append_getElem h
theorem val_take_succ (xs : List Nat) (k : Nat) (h : k < xs.length) : val (xs.take (k + 1)) = val (xs.take k) + B ^ k * xs[k] := by
  rw [take_snoc xs k h, val_snoc, List.length_take, Nat.min_eq_left (by omega)]
theorem val_split (xs : List Nat) (k : Nat) (h : k ≤ xs.length) : val xs = val (xs.take k) + B ^ k * val (xs.drop k) := by
  conv => lhs; rw [← List.take_append_drop k xs]
  rw [val_append, List.length_take, Nat.min_eq_left h]
theorem val_drop (xs : List Nat) (k : Nat) (h : k < xs.length) : val (xs.drop k) = xs[k] + B * val (xs.drop (k + 1)) := by
  rw [List.drop_eq_getElem_cons h, val_cons]
theorem val_lt {xs : List Nat} (h : Lo xs) : val xs < B ^ xs.length := by
  induction xs with
  | nil => simp [val_nil]
  | cons x r ih =>
    have i := ih h.tail
    have e : B ^ (x :: r).length = B * B ^ r.length := by rw [List.length_cons, Nat.pow_succ, Nat.mul_comm]
    have hx := h.head
    rw [← B_eq] at hx
    rw [val_cons, e]
    have : B * (val r + 1) ≤ B * B ^ r.length := Nat.mul_le_mul_left _ i
    rw [Nat.mul_add] at this
    omega
theorem val_zeros (n : Nat) : val (List.replicate n 0) = 0 := by
  induction n with
  | zero => rfl
  | succ n ih => rw [List.replicate_succ, val_cons, ih, Nat.mul_zero]
theorem val_append_zeros (xs : List Nat) (n : Nat) : val (xs ++ List.replicate n 0) = val xs := by rw [val_append, val_zeros, Nat.mul_zero, Nat.add_zero]

/-- The limbs of a number. -/
def limbs (n : Nat) : List Nat := if h : n = 0 then [] else n % 4294967296 :: limbs (n / 4294967296)
termination_by n
decreasing_by exact Nat.div_lt_self (Nat.pos_of_ne_zero h) (by decide)
theorem limbs_zero : limbs 0 = [] := by rw [limbs]; rfl
theorem limbs_pos {n : Nat} (h : n ≠ 0) : limbs n = n % 4294967296 :: limbs (n / 4294967296) := by rw [limbs, dif_neg h]
theorem lo_limbs (n : Nat) : Lo (limbs n) := by
  induction n using Nat.strongRecOn with
  | _ n ih =>
    by_cases h : n = 0
    · rw [h, limbs_zero]; exact .nil
    · rw [limbs_pos h]
      exact .cons (Nat.mod_lt _ (by decide)) (ih _ (Nat.div_lt_self (Nat.pos_of_ne_zero h) (by decide)))
theorem val_limbs (n : Nat) : val (limbs n) = n := by
  induction n using Nat.strongRecOn with
  | _ n ih =>
    by_cases h : n = 0
    · rw [h, limbs_zero]; rfl
    · rw [limbs_pos h, val_cons, ih _ (Nat.div_lt_self (Nat.pos_of_ne_zero h) (by decide)), B_eq]
      omega
theorem limbs_inj {a b : Nat} (h : limbs a = limbs b) : a = b := by rw [← val_limbs a, ← val_limbs b, h]
theorem limbs_add_mul {x n : Nat} (hx : x < 4294967296) (h : n ≠ 0) : limbs (x + 4294967296 * n) = x :: limbs n := by
  rw [limbs_pos (by omega)]
  have e1 : (x + 4294967296 * n) % 4294967296 = x := by omega
  have e2 : (x + 4294967296 * n) / 4294967296 = n := by omega
  rw [e1, e2]
theorem limbs_one {x : Nat} (hx : x < 4294967296) (h : x ≠ 0) : limbs x = [x] := by
  rw [limbs_pos h]
  have e1 : x % 4294967296 = x := by omega
  have e2 : x / 4294967296 = 0 := by omega
  rw [e1, e2, limbs_zero]
/-- Limbs of which the last one is not 0 are those of their number. -/
theorem limbs_val {xs : List Nat} (h : Lo xs) (k : ∀ hn : xs ≠ [], xs.getLast hn ≠ 0) : limbs (val xs) = xs := by
  induction xs with
  | nil => rw [val_nil, limbs_zero]
  | cons x r ih =>
    rw [val_cons, B_eq]
    by_cases hr : r = []
    · subst hr
      have := k (by simp)
      simp at this
      rw [val_nil, Nat.mul_zero, Nat.add_zero]
      exact limbs_one h.head this
    · have k' : ∀ hn : r ≠ [], r.getLast hn ≠ 0 := fun hn => by
        have := k (by simp)
        rwa [List.getLast_cons hn] at this
      have i := ih h.tail k'
      have nz : val r ≠ 0 := by
        intro e
        rw [e, limbs_zero] at i
        exact hr i.symm
      rw [limbs_add_mul h.head nz, i]
theorem limbs_last (n : Nat) (hn : limbs n ≠ []) : (limbs n).getLast hn ≠ 0 := by
  induction n using Nat.strongRecOn with
  | _ n ih =>
    by_cases h : n = 0
    · subst h; exact absurd limbs_zero hn
    · have e := limbs_pos h
      have : (limbs n).getLast hn = (n % 4294967296 :: limbs (n / 4294967296)).getLast (by simp) := by simp only [e]
      rw [this]
      by_cases h2 : n / 4294967296 = 0
      · have e3 : limbs (n / 4294967296) = [] := by rw [h2, limbs_zero]
        simp only [e3, List.getLast_singleton]
        omega
      · have hne : limbs (n / 4294967296) ≠ [] := by rw [limbs_pos h2]; simp
        rw [List.getLast_cons hne]
        exact ih _ (Nat.div_lt_self (Nat.pos_of_ne_zero h) (by decide)) hne
/-- Noughts at the high end count for nothing. -/
theorem limbs_snoc_zero {xs : List Nat} : limbs (val (xs ++ [0])) = limbs (val xs) := by rw [val_snoc, Nat.mul_zero, Nat.add_zero]

/-- How many limbs. -/
def ln (n : Nat) : Nat := (limbs n).length
theorem ln_zero : ln 0 = 0 := by unfold ln; rw [limbs_zero]; rfl
theorem ln_eq_zero {n : Nat} (h : ln n = 0) : n = 0 := by
  unfold ln at h
  have := List.eq_nil_of_length_eq_zero h
  rw [← val_limbs n, this, val_nil]
theorem ln_pos {n : Nat} (h : n ≠ 0) : 0 < ln n := by
  rcases Nat.eq_zero_or_pos (ln n) with k | k
  · exact absurd (ln_eq_zero k) h
  · exact k
theorem ln_succ {n : Nat} (h : n ≠ 0) : ln n = ln (n / 4294967296) + 1 := by unfold ln; rw [limbs_pos h]; rfl
theorem lt_ln (n : Nat) : n < B ^ ln n := by
  have := val_lt (lo_limbs n)
  rwa [val_limbs] at this
theorem ln_le {n k : Nat} (h : n < B ^ k) : ln n ≤ k := by
  induction k generalizing n with
  | zero =>
    have : n = 0 := by simpa using h
    rw [this, ln_zero]; omega
  | succ k ih =>
    by_cases hz : n = 0
    · rw [hz, ln_zero]; omega
    · rw [ln_succ hz]
      have : n / 4294967296 < B ^ k := by
        rw [Nat.pow_succ, B_eq] at h
        rw [B_eq]
        exact Nat.div_lt_of_lt_mul (by rwa [Nat.mul_comm])
      have := ih this
      omega
theorem le_of_ln {n : Nat} (h : n ≠ 0) : B ^ (ln n - 1) ≤ n := by
  apply Decidable.byContradiction
  intro k
  have := ln_le (show n < B ^ (ln n - 1) by omega)
  have := ln_pos h
  omega
theorem ln_mono {a b : Nat} (h : a ≤ b) : ln a ≤ ln b := ln_le (Nat.lt_of_le_of_lt h (lt_ln b))
theorem ln_val {xs : List Nat} (h : Lo xs) : ln (val xs) ≤ xs.length := ln_le (val_lt h)
theorem limbs_length (n : Nat) : (limbs n).length = ln n := rfl
theorem last_ne_zero {a k : Nat} (hk : k + 1 = (limbs a).length) : (limbs a)[k]'(by omega) ≠ 0 := by
  have hn : limbs a ≠ [] := by intro e; rw [e] at hk; simp at hk
  have := limbs_last a hn
  rw [List.getLast_eq_getElem] at this
  have e : (limbs a).length - 1 = k := by omega
  simpa only [e] using this
theorem val_take_limbs_lt (a k : Nat) : val ((limbs a).take k) < B ^ k := by
  have := val_lt ((lo_limbs a).take k)
  refine Nat.lt_of_lt_of_le this (Nat.pow_le_pow_right B_pos (by simp; omega))
end Go.Proofs.Ytacobmnghdibaaa
namespace Go.Proofs.Ytacobmnghdibaaa
open Go.RowKit

theorem cell_lt {w : World} {p : Addr} {v : Value} (h : w.cell? p = some v) : p.block < w.heap.size := by
  apply Decidable.byContradiction
  intro k
  have e : w.heap[p.block]? = none := by simp; omega
  simp [World.cell?, e] at h
theorem keep_cell {W w1 : World} (hb : Below W.heap.size W w1) {p : Addr} {v : Value} (h : W.cell? p = some v) : w1.cell? p = some v := by
  rw [hb.cell (cell_lt h)]; exact h
theorem keep_alloc {w : World} {p : Addr} {v : Value} (h : w.cell? p = some v) (o : Obj) : (w.alloc o).cell? p = some v := keep_cell ((Below.refl _ _).alloc (Nat.le_refl _) o) h
theorem keep_frozen {W w1 : World} (hb : Below W.heap.size W w1) {p : Addr} (hp : p.block < W.heap.size) (h : W.frozen? p = false) : w1.frozen? p = false := by
  rw [hb.frozen hp]; exact h
theorem keep_melt {W w1 : World} {p : Addr} {v : Value} (hb : Below W.heap.size W w1) (hc : W.cell? p = some v) (h : W.frozen? p = false) : w1.frozen? p = false := keep_frozen hb (cell_lt hc) h
theorem keep_set {w : World} {p a : Addr} {v : Value} (h : w.cell? p = some v) (u : Value) (hne : p.block ≠ a.block) : (w.setCell a u).cell? p = some v := by
  rw [World.cell?_of_block (w := w) (Below.heap_setCell w a u p.block hne)]; exact h
theorem below_drewN {B : Nat} {a w : World} (h : Below B a w) (n : Nat) : Below B a (w.drewN n) := ⟨h.os, h.tape, h.output, h.size, h.block⟩
theorem below_step {w a b : World} (h : Below w.heap.size w a) (k : Below a.heap.size a b) : Below w.heap.size w b := h.trans (k.mono h.size)

/-- A limb. -/
abbrev lv (x : Nat) : Value := .int .u32 (x : Int)

/-- The slice at A of length n reads as the limbs xs. -/
structure Lim (w : World) (A : Option Addr) (n c : Nat) (xs : List Nat) : Prop where
  len : xs.length = n
  cap : n ≤ c
  top : c ≤ 9223372036854775807
  at_ : ∀ j (h : j < xs.length), ∃ ad, A = some ad ∧ w.cell? (ad.add j) = some (lv xs[j])
  lo : Lo xs

section
variable {w w' : World} {A : Option Addr} {n c : Nat} {xs : List Nat}
theorem Lim.next (h : Lim w A n c xs) (hb : Below w.heap.size w w') : Lim w' A n c xs :=
  ⟨h.len, h.cap, h.top, fun j hj => by
    obtain ⟨ad, e, hc⟩ := h.at_ j hj
    exact ⟨ad, e, keep_cell hb hc⟩, h.lo⟩
theorem Lim.drewN (h : Lim w A n c xs) (k : Nat) : Lim (w.drewN k) A n c xs := ⟨h.len, h.cap, h.top, h.at_, h.lo⟩
theorem Lim.drew (h : Lim w A n c xs) : Lim w.drew A n c xs := ⟨h.len, h.cap, h.top, h.at_, h.lo⟩
theorem Lim.alloc (h : Lim w A n c xs) (o : Obj) : Lim (w.alloc o) A n c xs := h.next ((Below.refl _ _).alloc (Nat.le_refl _) o)
theorem Lim.none_ (w : World) (A : Option Addr) (c : Nat) (hc : c ≤ 9223372036854775807) : Lim w A 0 c [] := ⟨rfl, Nat.zero_le _, hc, fun j hj => absurd hj (by simp), .nil⟩
theorem Lim.take (h : Lim w A n c xs) {k : Nat} (hk : k ≤ n) : Lim w A k c (xs.take k) :=
  ⟨by have := h.len; simp; omega, Nat.le_trans hk h.cap, h.top, fun j hj => by
    have hj' : j < xs.length := by simp at hj; omega
    obtain ⟨ad, e, hc⟩ := h.at_ j hj'
    exact ⟨ad, e, by simpa using hc⟩, h.lo.take k⟩
theorem Lim.cell {ad : Addr} (h : Lim w (some ad) n c xs) (j : Nat) (hj : j < xs.length) : w.cell? (ad.add j) = some (lv xs[j]) := by
  obtain ⟨ad', e, hc⟩ := h.at_ j hj
  injection e with e
  subst e
  exact hc
theorem Lim.some_ (h : Lim w A n c xs) (hn : 0 < n) : ∃ ad, A = some ad := by
  obtain ⟨ad, e, _⟩ := h.at_ 0 (by have := h.len; omega)
  exact ⟨ad, e⟩
end

/-- What a call answers that makes a natural. -/
def RetN (r : Nat) (w : World) (e : Ending) (w' : World) : Prop := ∃ A n c, e = .returned (.slice A n c) ∧ Lim w' A n c (limbs r) ∧ Below w.heap.size w w'
/-- .. and an error. -/
def RetE (r : Nat) (k : Int) (w : World) (e : Ending) (w' : World) : Prop := ∃ A n c, e = .returned (.tuple #[.slice A n c, .int .i64 k]) ∧ Lim w' A n c (limbs r) ∧ Below w.heap.size w w'
end Go.Proofs.Ytacobmnghdibaaa
namespace Go.Proofs.Ytacobmnghdibaaa

/-- The bytes of a text; the text of bytes. -/
abbrev L (s : ByteArray) : List UInt8 := s.data.toList
abbrev bs (l : List UInt8) : ByteArray := ⟨l.toArray⟩
theorem L_bs (l : List UInt8) : L (bs l) = l := rfl
theorem bs_L (s : ByteArray) : bs (L s) = s := by cases s; simp
theorem L_len (s : ByteArray) : (L s).length = s.size := by cases s; simp [ByteArray.size]
theorem bs_size (l : List UInt8) : (bs l).size = l.length := by simp [ByteArray.size]
theorem L_app (a b : ByteArray) : L (a ++ b) = L a ++ L b := by cases a; cases b; simp
theorem L_inj {a b : ByteArray} (h : L a = L b) : a = b := by rw [← bs_L a, ← bs_L b, h]
theorem L_ext (s : ByteArray) (a b : Nat) : L (s.extract a b) = ((L s).drop a).take (b - a) := by
  obtain ⟨l, rfl⟩ : ∃ l, s = bs l := ⟨L s, (bs_L s).symm⟩
  rw [ByteArray.extract_mk]
theorem L_take (s : ByteArray) (k : Nat) : L (s.extract 0 k) = (L s).take k := by rw [L_ext]; simp
theorem L_drop (s : ByteArray) (k : Nat) : L (s.extract k s.size) = (L s).drop k := by
  rw [L_ext, List.take_of_length_le (by rw [List.length_drop, L_len]; exact Nat.le_refl _)]

/-- A byte. -/
abbrev by8 (n : Nat) : UInt8 := UInt8.ofNat n
theorem by8_toNat {n : Nat} (h : n < 256) : (by8 n).toNat = n := by
  rw [UInt8.toNat_ofNat']; exact Nat.mod_eq_of_lt (by omega)
/-- A number as it is written. -/
def enc (n : Nat) : List UInt8 := if h : n < 128 then [by8 n] else by8 (128 + n % 128) :: enc (n / 128)
termination_by n
decreasing_by omega
theorem enc_low {n : Nat} (h : n < 128) : enc n = [by8 n] := by rw [enc, dif_pos h]
theorem enc_high {n : Nat} (h : ¬ n < 128) : enc n = by8 (128 + n % 128) :: enc (n / 128) := by rw [enc, dif_neg h]
theorem enc_pos (n : Nat) : 0 < (enc n).length := by
  by_cases h : n < 128
  · rw [enc_low h]; simp
  · rw [enc_high h]; simp
theorem enc_len {n k : Nat} (h : n < 128 ^ (k + 1)) : (enc n).length ≤ k + 1 := by
  induction k generalizing n with
  | zero => rw [enc_low (by simpa using h)]; simp
  | succ k ih =>
    by_cases hn : n < 128
    · rw [enc_low hn]; simp
    · rw [enc_high hn, List.length_cons]
      have : n / 128 < 128 ^ (k + 1) := by
        rw [Nat.pow_succ] at h
        exact Nat.div_lt_of_lt_mul (by rw [Nat.mul_comm]; exact h)
      have := ih this
      omega
theorem enc_ten {n : Nat} (h : n < 18446744073709551616) : (enc n).length ≤ 10 := enc_len (k := 9) (Nat.lt_of_lt_of_le h (by decide))
/-- The number of bytes, seven bits each. -/
def val7 : List UInt8 → Nat
  | [] => 0
  | b :: r => b.toNat % 128 + 128 * val7 r
theorem val7_app (l m : List UInt8) : val7 (l ++ m) = val7 l + 128 ^ l.length * val7 m := by
  induction l with
  | nil => simp [val7]
  | cons b r ih => rw [List.cons_append, val7, val7, ih, List.length_cons, Nat.pow_succ, Nat.mul_add, Nat.add_assoc, Nat.mul_comm (128 ^ r.length) 128, Nat.mul_assoc]
theorem val7_enc (n : Nat) : val7 (enc n) = n := by
  induction n using Nat.strongRecOn with
  | _ n ih =>
    by_cases h : n < 128
    · rw [enc_low h, val7, val7, by8_toNat (by omega)]; omega
    · rw [enc_high h, val7, ih _ (by omega), by8_toNat (by omega)]; omega
theorem enc_inj {a b : Nat} (h : enc a = enc b) : a = b := by rw [← val7_enc a, ← val7_enc b, h]
/-- Where the first byte below 128 stands. -/
def fl : List UInt8 → Option Nat
  | [] => none
  | b :: r => if b.toNat < 128 then some 0 else (fl r).map (· + 1)
theorem fl_enc (n : Nat) (r : List UInt8) : fl (enc n ++ r) = some ((enc n).length - 1) := by
  induction n using Nat.strongRecOn with
  | _ n ih =>
    by_cases h : n < 128
    · rw [enc_low h]
      simp only [List.cons_append, fl]
      rw [if_pos (by rw [by8_toNat (by omega)]; exact h)]
      rfl
    · have e := ih (n / 128) (by omega)
      have p := enc_pos (n / 128)
      rw [enc_high h]
      simp only [List.cons_append, fl]
      rw [if_neg (by rw [by8_toNat (by omega)]; omega), e, Option.map_some, List.length_cons]
      congr 1; omega
theorem fl_some {l : List UInt8} {i : Nat} (h : fl l = some i) : ∃ hi : i < l.length, l[i].toNat < 128 ∧ ∀ j (hj : j < i), ¬ (l[j]'(by omega)).toNat < 128 := by
  induction l generalizing i with
  | nil => cases h
  | cons b r ih =>
    by_cases hb : b.toNat < 128
    · rw [fl, if_pos hb] at h
      cases h
      exact ⟨by simp, hb, fun j hj => absurd hj (by omega)⟩
    · rw [fl, if_neg hb] at h
      rcases hr : fl r with _ | k
      · rw [hr] at h; cases h
      · rw [hr, Option.map_some] at h
        injection h with h
        subst h
        obtain ⟨h1, h2, h3⟩ := ih hr
        refine ⟨by simp; omega, by simpa using h2, fun j hj => ?_⟩
        cases j with
        | zero => simpa using hb
        | succ j => simpa using h3 j (by omega)
theorem fl_at {l : List UInt8} {i : Nat} (hi : i < l.length) (h1 : l[i].toNat < 128) (h2 : ∀ j (hj : j < i), ¬ (l[j]'(by omega)).toNat < 128) : fl l = some i := by
  induction l generalizing i with
  | nil => simp at hi
  | cons b r ih =>
    cases i with
    | zero => rw [fl, if_pos (by simpa using h1)]
    | succ i =>
      have hb : ¬ b.toNat < 128 := by simpa using h2 0 (by omega)
      rw [fl, if_neg hb, ih (i := i) (by simpa using hi) (by simpa using h1) (fun j hj => by simpa using h2 (j + 1) (by omega)), Option.map_some]
/-- The number that a text begins with, and how many bytes it has. -/
def numAt (l : List UInt8) : Option (Nat × Nat) :=
  match fl l with
  | some i => if val7 (l.take (i + 1)) < 18446744073709551616 ∧ enc (val7 (l.take (i + 1))) = l.take (i + 1) then some (val7 (l.take (i + 1)), i + 1) else none
  | none => none
theorem numAt_iff {l : List UInt8} {n k : Nat} : numAt l = some (n, k) ↔ n < 18446744073709551616 ∧ k = (enc n).length ∧ l.take k = enc n := by
  constructor
  · intro h
    unfold numAt at h
    rcases hf : fl l with _ | i
    · rw [hf] at h; cases h
    · rw [hf] at h
      simp only at h
      split at h
      · rename_i hc
        simp only [Option.some.injEq, Prod.mk.injEq] at h
        obtain ⟨rfl, rfl⟩ := h
        obtain ⟨hi, _, _⟩ := fl_some hf
        refine ⟨hc.1, ?_, hc.2.symm⟩
        rw [hc.2, List.length_take]; omega
      · cases h
  · rintro ⟨h1, h2, h3⟩
    have e : l = enc n ++ l.drop k := by rw [← h3, List.take_append_drop]
    have p := enc_pos n
    have hf : fl l = some (k - 1) := by rw [e, h2]; exact fl_enc n _
    unfold numAt
    rw [hf]
    simp only
    rw [Nat.sub_add_cancel (by omega), h3, val7_enc, if_pos ⟨h1, rfl⟩]
theorem numAt_none {l : List UInt8} (h : ∀ n k, n < 18446744073709551616 → k = (enc n).length → l.take k = enc n → False) : numAt l = none := by
  rcases hn : numAt l with _ | ⟨n, k⟩
  · rfl
  · obtain ⟨a, b, c⟩ := numAt_iff.1 hn
    exact (h n k a b c).elim
theorem numAt_long {l : List UInt8} (h : ∀ j (hj : j < l.length), j < 10 → ¬ l[j].toNat < 128) : numAt l = none := by
  refine numAt_none fun n k h1 h2 h3 => ?_
  have e : l = enc n ++ l.drop k := by rw [← h3, List.take_append_drop]
  have p := enc_pos n
  have q := enc_ten h1
  have hf : fl l = some ((enc n).length - 1) := by
    conv => lhs; rw [e]
    exact fl_enc n _
  obtain ⟨a, b, _⟩ := fl_some hf
  exact h _ a (by omega) b
theorem numAt_here {l : List UInt8} {i : Nat} (hi : i < l.length) (h1 : l[i].toNat < 128) (h2 : ∀ j (hj : j < i), ¬ (l[j]'(by omega)).toNat < 128) :
    numAt l = if enc (val7 (l.take (i + 1)) % 18446744073709551616) = l.take (i + 1) then some (val7 (l.take (i + 1)) % 18446744073709551616, i + 1) else none := by
  have hf := fl_at hi h1 h2
  unfold numAt
  rw [hf]
  simp only
  by_cases hv : val7 (l.take (i + 1)) < 18446744073709551616
  · rw [Nat.mod_eq_of_lt hv]
    by_cases he : enc (val7 (l.take (i + 1))) = l.take (i + 1)
    · rw [if_pos ⟨hv, he⟩, if_pos he]
    · rw [if_neg (fun x => he x.2), if_neg he]
  · rw [if_neg (fun x => hv x.1), if_neg]
    intro he
    have := val7_enc (val7 (l.take (i + 1)) % 18446744073709551616)
    rw [he] at this
    have := Nat.mod_lt (val7 (l.take (i + 1))) (show 0 < 18446744073709551616 by decide)
    omega
/-- So many bytes of a number, the lowest first; the number of bytes. -/
def leb (n : Nat) : Nat → List UInt8
  | 0 => []
  | k + 1 => by8 (n % 256) :: leb (n / 256) k
theorem leb_len (n k : Nat) : (leb n k).length = k := by
  induction k generalizing n with
  | zero => rfl
  | succ k ih => rw [leb, List.length_cons, ih]
def vle : List UInt8 → Nat
  | [] => 0
  | b :: r => b.toNat + 256 * vle r
theorem vle_lt : ∀ l : List UInt8, vle l < 256 ^ l.length
  | [] => by simp [vle]
  | b :: r => by
    have := vle_lt r
    have h := b.toNat_lt
    rw [vle, List.length_cons, Nat.pow_succ]
    omega
theorem vle_leb {n k : Nat} (h : n < 256 ^ k) : vle (leb n k) = n := by
  induction k generalizing n with
  | zero => have : n = 0 := by simpa using h
            rw [this]; rfl
  | succ k ih =>
    have : n / 256 < 256 ^ k := by
      rw [Nat.pow_succ] at h
      exact Nat.div_lt_of_lt_mul (by rw [Nat.mul_comm]; exact h)
    rw [leb, vle, ih this, by8_toNat (by omega)]; omega
theorem leb_vle : ∀ l : List UInt8, leb (vle l) l.length = l
  | [] => rfl
  | b :: r => by
    have h := b.toNat_lt
    rw [List.length_cons, leb, vle, show (b.toNat + 256 * vle r) / 256 = vle r by omega, leb_vle r, show (b.toNat + 256 * vle r) % 256 = b.toNat by omega]
    congr 1
    exact UInt8.ofNat_toNat
theorem vle_drop (l : List UInt8) (k : Nat) (h : k < l.length) : vle (l.drop k) = l[k].toNat + 256 * vle (l.drop (k + 1)) := by
  rw [List.drop_eq_getElem_cons h, vle]
theorem vle_drop_lt {l : List UInt8} (h : l.length ≤ 8) (k : Nat) : vle (l.drop k) < 18446744073709551616 := by
  have a := vle_lt (l.drop k)
  have b : (l.drop k).length ≤ 8 := by rw [List.length_drop]; omega
  refine Nat.lt_of_lt_of_le a (Nat.le_trans (Nat.pow_le_pow_right (by decide) b) (by decide))
theorem val7_take (l : List UInt8) (k : Nat) (h : k < l.length) : val7 (l.take (k + 1)) = val7 (l.take k) + 128 ^ k * (l[k].toNat % 128) := by
  rw [List.take_succ_eq_append_getElem h, val7_app, List.length_take, Nat.min_eq_left (by omega)]
  simp [val7]
end Go.Proofs.Ytacobmnghdibaaa
namespace Go.Proofs.Ytacobmnghdibaaa
open Go.RowKit
set_option linter.unusedVariables false
set_option linter.unusedSimpArgs false
set_option maxHeartbeats 2000000
set_option maxRecDepth 100000
/-- One byte that was made anew, as a text. -/
theorem conv_one (W : World) (b : UInt8) : (convert 65 9 (.slice (some ⟨W.heap.size, 0, none⟩) 1 1)).run Try.prog (W.alloc (.cells #[.int .u8 (b.toNat : Int)] 5)) = .ok (.string (bs [b])) (W.alloc (.cells #[.int .u8 (b.toNat : Int)] 5)) := by
  exact run_convert_bytes_back _ 65 9 5 ⟨W.heap.size, 0, none⟩ 1 [b] Try.underlying65 Try.underlying5 Try.underlying9 (fun j hj => by
    have hj0 : j = 0 := by simpa using hj
    subst hj0
    show (match (W.alloc (.cells #[.int .u8 (b.toNat : Int)] 5)).heap[W.heap.size]? with | some (.cells c _ _) => if (none : Option Nat).isSome then none else c[0]? | _ => none) = _
    rw [heap_alloc_new]
    rfl)
theorem below_one (W : World) (o : Obj) : Below W.heap.size W (W.alloc o) := (Below.refl _ _).alloc (Nat.le_refl _) o
theorem byte_high (n : Nat) : ∃ b : UInt8, (128 : Int) + (n : Int) % 128 = (b.toNat : Int) ∧ b = by8 (128 + n % 128) := ⟨by8 (128 + n % 128), by rw [by8_toNat (by omega)]; omega, rfl⟩
theorem byte_low {n : Nat} (h : n < 256) : ∃ b : UInt8, (n : Int) = (b.toNat : Int) ∧ b = by8 n := ⟨by8 n, by rw [by8_toNat h], rfl⟩
theorem refNumber_any (n : Nat) (hn : n < 18446744073709551616) (w : World) : Calls Try.prog 15 #[.int .u64 (n : Int)] w fun e w' => e = .returned (.string (bs (enc n))) ∧ Below w.heap.size w w' := by
  have H10 := Lib.hid (enc_ten hn)
  go_enter Try.func15, Try.ntmps15
  go_wp2_with fail
  go_loopg [0, 3] n (fun q s0 s3 wr => ∃ s : ByteArray, s0 = .int .u64 (q : Int) ∧ s3 = .string s ∧ q < 18446744073709551616 ∧ Hid (L s ++ enc q = enc n) ∧ Below w.heap.size w wr)
  case atStart => exact ⟨⟨#[]⟩, rfl, rfl, hn, rfl, Below.refl _ _⟩
  case round =>
    obtain ⟨s, rfl, rfl, hq, he, BL⟩ := hrel
    obtain ⟨m, rfl⟩ : ∃ m, m = gk := ⟨_, rfl⟩
    have hs : s.size ≤ 10 := by
      have := congrArg List.length he.out
      rw [List.length_append, L_len] at this
      have := H10.out
      omega
    by_cases hm : m < 128
    · have h1 : ¬ (127 : Int) < m := by omega
      obtain ⟨b, e1, e2⟩ := byte_low (show m < 256 by omega)
      have ES : Hid (s ++ bs [b] = bs (enc n)) := L_inj (by rw [L_app, L_bs, L_bs, ← he.out, enc_low hm, e2])
      have sz : (bs [b]).size = 1 := rfl
      have hadd : ∀ W : World, (Op.stringOp .add s (bs [b])).run Try.prog W = .ok (.string (s ++ bs [b])) W := fun W => run_string_add_sum W s (bs [b]) (by omega)
      have hcv := conv_one wr b
      have BW := Lib.hid (BL.alloc BL.size (.cells #[.int .u8 (b.toNat : Int)] 5))
      clear e2 sz
      go_wp2_with fail
      go_ret
      exact ⟨by rw [← ES.out]; rfl, BW.out⟩
    · have h1 : (127 : Int) < m := by omega
      obtain ⟨b, e1, e2⟩ := byte_high m
      have ES : Hid (L (s ++ bs [b]) ++ enc (m / 128) = enc n) := by
        unfold Hid
        rw [L_app, L_bs, ← he.out, enc_high hm, e2, List.append_assoc]; rfl
      have sz : (bs [b]).size = 1 := rfl
      have hadd : ∀ W : World, (Op.stringOp .add s (bs [b])).run Try.prog W = .ok (.string (s ++ bs [b])) W := fun W => run_string_add_sum W s (bs [b]) (by omega)
      have hle : ¬ (9223372036854775807 < s.size + (bs [b]).size) := by omega
      have hcv := conv_one wr b
      have BW := Lib.hid (BL.alloc BL.size (.cells #[.int .u8 (b.toNat : Int)] 5))
      have HM := Lib.hid hm
      have b256 : b.toNat < 256 := b.toNat_lt
      clear e2 sz he BL
      go_wp2_with fail
      go_roundg (m / 128)
      case measure => have := HM.out; omega
      case rel =>
        go_light
        exact ⟨s ++ bs [b], by go_num, rfl, by omega, ES.out, BW.out⟩
end Go.Proofs.Ytacobmnghdibaaa
namespace Go.Proofs.Ytacobmnghdibaaa
open Go.RowKit
set_option linter.unusedVariables false
set_option linter.unusedSimpArgs false
set_option maxHeartbeats 2000000
set_option maxRecDepth 100000
theorem byte_mod (n : Nat) : ∃ b : UInt8, (n : Int) % 256 = (b.toNat : Int) ∧ b = by8 (n % 256) := ⟨by8 (n % 256), by rw [by8_toNat (by omega)]; omega, rfl⟩
theorem refBytes_any (n k : Nat) (hn : n < 18446744073709551616) (hk : k ≤ 1000) (w : World) : Calls Try.prog 31 #[.int .u64 (n : Int), .int .i64 (k : Int)] w fun e w' => e = .returned (.string (bs (leb n k))) ∧ Below w.heap.size w w' := by
  go_enter Try.func31, Try.ntmps31
  go_wp2_with fail
  go_loopg [0, 5, 6] k (fun q s0 s5 s6 wr => ∃ (s : ByteArray) (m i : Nat), i + q = k ∧ s0 = .int .u64 (m : Int) ∧ s5 = .string s ∧ s6 = .int .i64 (i : Int) ∧ m < 18446744073709551616 ∧ s.size = i ∧ Hid (L s ++ leb m q = leb n k) ∧ Below w.heap.size w wr)
  case atStart => exact ⟨⟨#[]⟩, n, 0, by omega, rfl, rfl, rfl, hn, rfl, rfl, Below.refl _ _⟩
  case round =>
    obtain ⟨s, m, i, hq, rfl, rfl, rfl, hm, hs, he, BL⟩ := hrel
    have HQ := Lib.hid hq
    by_cases lt : i < k
    · have il : (i : Int) < k := by omega
      obtain ⟨r, hr⟩ : ∃ r, gk = r + 1 := ⟨gk - 1, by omega⟩
      subst hr
      obtain ⟨b, e1, e2⟩ := byte_mod m
      have ES : Hid (L (s ++ bs [b]) ++ leb (m / 256) r = leb n k) := by
        unfold Hid
        rw [L_app, L_bs, ← he.out, leb, e2, List.append_assoc]; rfl
      have sz : (bs [b]).size = 1 := rfl
      have SZ : Hid ((s ++ bs [b]).size = i + 1) := by unfold Hid; rw [← L_len, L_app, List.length_append, L_len, hs]; rfl
      have hadd : ∀ W : World, (Op.stringOp .add s (bs [b])).run Try.prog W = .ok (.string (s ++ bs [b])) W := fun W => run_string_add_sum W s (bs [b]) (by omega)
      have hle : ¬ (9223372036854775807 < s.size + (bs [b]).size) := by omega
      have hcv := conv_one wr b
      have BW := Lib.hid (BL.alloc BL.size (.cells #[.int .u8 (b.toNat : Int)] 5))
      have b256 : b.toNat < 256 := b.toNat_lt
      have i9 : i ≤ 1000 := by omega
      clear e2 sz he BL hq hs
      go_wp2_with fail
      go_roundg r
      case measure => omega
      case rel =>
        go_light
        exact ⟨s ++ bs [b], m / 256, i + 1, by have := HQ.out; omega, by go_num, rfl, by go_num, by omega, SZ.out, ES.out, BW.out⟩
    · obtain rfl : k = i := by omega
      have il : ¬ (k : Int) < k := by omega
      have ES : Hid (s = bs (leb n k)) := by
        refine L_inj ?_
        rw [L_bs, ← he.out]
        have : gk = 0 := by omega
        rw [this, leb, List.append_nil]
      clear he hq hs
      go_wp2_with fail
      go_ret
      exact ⟨by rw [← ES.out]; rfl, BL⟩
theorem value_step {v : Nat} {b : UInt8} (h : b.toNat + 256 * v < 18446744073709551616) : IntKind.u64.wrap (IntKind.u64.wrap (256 * (v : Int)) + IntKind.u64.wrap (b.toNat : Int)) = ((b.toNat + 256 * v : Nat) : Int) := by
  have := b.toNat_lt
  rw [IntKind.wrap_u64, IntKind.wrap_u64, IntKind.wrap_u64]; omega
theorem refValue_any (s : ByteArray) (hs : s.size ≤ 8) (w : World) : Calls Try.prog 67 #[.string s] w fun e w' => e = .returned (.int .u64 (vle (L s) : Int)) ∧ w = w' := by
  have HS := Lib.hid (L_len s)
  go_enter Try.func67, Try.ntmps67
  go_wp2_with fail
  go_loopg [3, 4] s.size (fun q s3 s4 wr => ∃ v : Nat, q ≤ s.size ∧ s4 = .int .i64 ((q : Int) - 1) ∧ s3 = .int .u64 (v : Int) ∧ Hid (v = vle ((L s).drop q)) ∧ w = wr)
  case atStart => exact ⟨0, Nat.le_refl _, rfl, rfl, by unfold Hid; rw [List.drop_of_length_le (by rw [HS.out]; exact Nat.le_refl _), vle], rfl⟩
  case round =>
    obtain ⟨v, hq, rfl, rfl, hv, rfl⟩ := hrel
    by_cases hz : gk = 0
    · subst hz
      have ek : ((0 : Nat) : Int) - 1 = -1 := by omega
      rw [ek]
      have E : Hid (v = vle (L s)) := by unfold Hid; rw [hv.out, List.drop_zero]
      clear ek hv
      go_wp2_with fail
      go_ret
      exact ⟨by rw [← E.out]; rfl, rfl⟩
    · obtain ⟨k, rfl⟩ : ∃ k, gk = k + 1 := ⟨gk - 1, by omega⟩
      have ek : ((k + 1 : Nat) : Int) - 1 = (k : Int) := by omega
      rw [ek]
      have kx : k < (L s).length := by rw [HS.out]; omega
      have d0 := vle_drop _ k kx
      have d1 := vle_drop_lt (l := L s) (by rw [HS.out]; exact hs) k
      rw [d0, ← hv.out] at d1
      rw [← hv.out] at d0
      have D := Lib.hid d0
      have EN := Lib.hid (value_step d1)
      have il0 : (0 : Int) ≤ k := by omega
      have il : (k : Int) < s.size := by omega
      have il2 : k < s.size := by omega
      clear hv d0 d1 ek
      go_wp2_with fail
      go_roundg k
      case measure => omega
      case rel =>
        go_light
        exact ⟨(L s)[k].toNat + 256 * v, by omega, rfl, congrArg (Value.int .u64) EN.out, D.out.symm, rfl⟩
end Go.Proofs.Ytacobmnghdibaaa
namespace Go.Proofs.Ytacobmnghdibaaa
open Go.RowKit
set_option linter.unusedVariables false
set_option linter.unusedSimpArgs false
set_option maxHeartbeats 2000000
set_option maxRecDepth 100000
/-- The number that a text begins with, and how many bytes it has; 0, 0: there is none. -/
@[irreducible] def numOf (l : List UInt8) : Nat × Nat := (numAt l).getD (0, 0)
theorem numOf_none {l : List UInt8} (h : numAt l = none) : numOf l = (0, 0) := by unfold numOf; rw [h]; rfl
theorem numOf_some {l : List UInt8} {n k : Nat} (h : numAt l = some (n, k)) : numOf l = (n, k) := by unfold numOf; rw [h]; rfl
/-- One more than the greatest word; 128 so often. -/
@[irreducible] def p128 (i : Nat) : Nat := 128 ^ i % 18446744073709551616
theorem p128_eq (i : Nat) : p128 i = 128 ^ i % 18446744073709551616 := by unfold p128; rfl
theorem p128_zero : p128 0 = 1 := by rw [p128_eq]
theorem p128_step (i : Nat) : IntKind.u64.wrap ((p128 i : Int) * 128) = (p128 (i + 1) : Int) := by
  have e : p128 (i + 1) = p128 i * 128 % 18446744073709551616 := by
    rw [p128_eq, p128_eq, Nat.pow_succ, Nat.mod_mul_mod]
  rw [e, IntKind.wrap_u64]; omega
/-- The number of the first i bytes, as a word. -/
@[irreducible] def v64 (l : List UInt8) (i : Nat) : Nat := val7 (l.take i) % 18446744073709551616
theorem v64_eq (l : List UInt8) (i : Nat) : v64 l i = val7 (l.take i) % 18446744073709551616 := by unfold v64; rfl
theorem v64_zero (l : List UInt8) : v64 l 0 = 0 := by rw [v64_eq, List.take_zero]; rfl
theorem v64_lt (l : List UInt8) (i : Nat) : v64 l i < 18446744073709551616 := by rw [v64_eq]; exact Nat.mod_lt _ (by decide)
theorem v64_step {l : List UInt8} {i : Nat} (h : i < l.length) : IntKind.u64.wrap ((v64 l i : Int) + IntKind.u64.wrap ((l[i].toNat : Int) % 128 * (p128 i : Int))) = (v64 l (i + 1) : Int) := by
  have e : v64 l (i + 1) = (v64 l i + l[i].toNat % 128 * p128 i % 18446744073709551616) % 18446744073709551616 := by
    rw [v64_eq, v64_eq, val7_take l i h, p128_eq, Nat.mul_comm (l[i].toNat % 128), Nat.mod_mul_mod, ← Nat.add_mod]
  have c : ((l[i].toNat : Int) % 128 * (p128 i : Int)) = ((l[i].toNat % 128 * p128 i : Nat) : Int) := by
    rw [Int.natCast_mul]; rfl
  rw [c, e, IntKind.wrap_u64, IntKind.wrap_u64]
  generalize l[i].toNat % 128 * p128 i = z
  omega
theorem refNum_any (s : ByteArray) (hs : s.size ≤ 9223372036854775807) (w : World) : Calls Try.prog 65 #[.string s] w fun e w' => e = .returned (.tuple #[.int .u64 ((numOf (L s)).1 : Int), .int .i64 ((numOf (L s)).2 : Int)]) ∧ Below w.heap.size w w' := by
  have HS := Lib.hid (L_len s)
  have KN : Hid (∀ (n : Nat) (W : World), n < 18446744073709551616 → Calls Try.prog 15 #[.int .u64 (n : Int)] W fun e w' => e = .returned (.string (bs (enc n))) ∧ Below W.heap.size W w') := fun n W hn => refNumber_any n hn W
  have V0 := Lib.hid (v64_zero (L s))
  have P0 := Lib.hid p128_zero
  go_enter Try.func65, Try.ntmps65
  go_wp2_with fail
  go_loopg [4, 5, 6] 10 (fun q s4 s5 s6 wr => ∃ i : Nat, i + q = 10 ∧ i ≤ s.size ∧ s4 = .int .u64 (v64 (L s) i : Int) ∧ s5 = .int .u64 (p128 i : Int) ∧ s6 = .int .i64 (i : Int) ∧ Hid (∀ j (hj : j < (L s).length), j < i → ¬ (L s)[j].toNat < 128) ∧ w = wr)
  case atStart => exact ⟨0, by omega, Nat.zero_le _, by rw [V0.out]; rfl, by rw [P0.out]; rfl, rfl, fun j _ hj => absurd hj (by omega), rfl⟩
  case round =>
    obtain ⟨i, hq, hi, rfl, rfl, rfl, hno, rfl⟩ := hrel
    have HQ := Lib.hid hq
    by_cases lt : i < s.size
    · have il : (i : Int) < s.size := by omega
      have il0 : (0 : Int) ≤ i := by omega
      by_cases l10 : i < 10
      · have i10 : (i : Int) < 10 := by omega
        have ix : i < (L s).length := by rw [HS.out]; exact lt
        have EV := v64_step ix
        have EP := p128_step i
        have V1 := v64_lt (L s) (i + 1)
        have eb : IntKind.u64.wrap ((s[i]'lt).toNat : Int) = ((L s)[i].toNat : Int) := by
          have : (s[i]'lt).toNat = (L s)[i].toNat := rfl
          have b := (L s)[i].toNat_lt
          rw [this, IntKind.wrap_u64]; omega
        have bb : (L s)[i].toNat < 256 := UInt8.toNat_lt _
        have i63 : i < 9223372036854775807 := by omega
        have LOW := Lib.hid (fun (low : (L s)[i].toNat < 128) => numAt_here ix low (fun j hj => hno.out j (by omega) hj))
        have HIGH : Hid (¬ (L s)[i].toNat < 128 → ∀ j (hj : j < (L s).length), j < i + 1 → ¬ (L s)[j].toNat < 128) := by
          intro h j hj hj2
          by_cases e : j < i
          · exact hno.out j hj e
          · have e2 : j = i := by omega
            subst e2
            exact h
        rw [← v64_eq] at LOW
        generalize (L s)[i].toNat = y at *
        clear hq hno
        by_cases low : y < 128
        · have NH := Lib.hid (LOW.out low)
          have hl : (y : Int) < 128 := by omega
          have KN1 := Lib.hid (fun W => KN.out _ W V1)
          have SE : Hid ((s.extract 0 (i + 1)).data.toList = (L s).take (i + 1)) := L_take s (i + 1)
          clear LOW HIGH low
          generalize v64 (L s) (i + 1) = v1 at *
          generalize v64 (L s) i = v0 at *
          generalize p128 (i + 1) = p1 at *
          generalize p128 i = p0 at *
          obtain ⟨k, hk⟩ : ∃ k, k = i + 1 := ⟨_, rfl⟩
          have e3 : (i : Int) + 1 = (k : Int) := by omega
          have j1 : (k : Int) ≤ s.size := by omega
          have j2 : (0 : Int) ≤ (k : Int) := by omega
          have j3 : k ≤ s.size := by omega
          rw [← hk] at NH SE
          have hsl : ∀ W : World, (Instr.slice 9 (.string s) none (some (.int .i64 (k : Int))) none).run Try.prog W = .ok (.string (s.extract 0 k)) W := fun W => run_slice_string_h W 9 s Try.underlying9 .i64 (k : Int) j2 j1
          have ew : IntKind.i64.wrap ((i : Int) + 1) = (k : Int) := by rw [e3, IntKind.wrap_i64]; omega
          have ew2 : IntKind.i64.wrap (k : Int) = (k : Int) := by rw [IntKind.wrap_i64]; omega
          clear hk
          by_cases en : enc v1 = (L s).take k
          · have EN : Hid (numOf (L s) = (v1, k)) := numOf_some (by rw [NH.out, if_pos en])
            have cb : (enc v1 == (s.extract 0 k).toList) = true := by rw [ByteArray.toList_eq, SE.out, en]; exact beq_self_eq_true _
            clear en
            generalize enc v1 = l1 at *
            go_wp2_with fail
            go_region_held3 (fun w' => Below w.heap.size w w')
              ((first | exact (Below.refl _ _).drew | exact below_step (Below.refl _ _).drew (by assumption)))
              (first | (go_at_call 15; refine (KN1.out _).mono ?_; rintro e z ⟨rfl, BZ⟩))
            all_goals go_wp2_with fail
            go_ret2
            exact ⟨by rw [EN.out]; rfl, below_step (Below.refl _ _).drew BZ⟩
          · have EN : Hid (numOf (L s) = (0, 0)) := numOf_none (by rw [NH.out, if_neg en])
            have cb : (enc v1 == (s.extract 0 k).toList) = false := by
              rw [ByteArray.toList_eq, SE.out]; exact beq_eq_false_iff_ne.2 en
            clear en
            generalize enc v1 = l1 at *
            go_wp2_with fail
            go_region_held3 (fun w' => Below w.heap.size w w')
              ((first | exact (Below.refl _ _).drew | exact below_step (Below.refl _ _).drew (by assumption)))
              (first | (go_at_call 15; refine (KN1.out _).mono ?_; rintro e z ⟨rfl, BZ⟩))
            all_goals go_wp2_with fail
            go_ret2
            exact ⟨by rw [EN.out]; rfl, below_step (Below.refl _ _).drew BZ⟩
        · have HG := Lib.hid (HIGH.out low)
          have hl : ¬ (y : Int) < 128 := by omega
          clear LOW HIGH low
          have j3 : i + 1 ≤ s.size := by omega
          have ew : IntKind.i64.wrap ((i : Int) + 1) = ((i + 1 : Nat) : Int) := by rw [IntKind.wrap_i64]; omega
          have hq := HQ.out
          go_wp2_with fail
          go_roundg (gk - 1)
          case measure => have := HQ.out; omega
          case rel =>
            exact ⟨i + 1, by omega, j3, by first | rfl | (rw [EV]), by first | rfl | (rw [EP]), by first | rfl | (rw [ew]) | (congr 1), HG, rfl⟩
      · have e10 : i = 10 := by omega
        subst e10
        have EN : Hid (numOf (L s) = (0, 0)) := numOf_none (numAt_long (l := L s) (fun j hj hj2 => hno.out j hj hj2))
        clear hno hq
        go_wp2_with fail
        go_ret2
        exact ⟨by rw [EN.out]; rfl, Below.refl _ _⟩
    · have e10 : i = s.size := by omega
      have EN : Hid (numOf (L s) = (0, 0)) := numOf_none (numAt_long (l := L s) (fun j hj hj2 => hno.out j hj (by have := HS.out; omega)))
      clear hno hq
      have il : ¬ (i : Int) < s.size := by omega
      go_wp2_with fail
      go_ret2
      exact ⟨by rw [EN.out]; rfl, Below.refl _ _⟩
end Go.Proofs.Ytacobmnghdibaaa
