/- Limbs in memory: what a slice of limbs reads as, and what stays. -/
import Derived.Test.YthhphbaimpcjfaaRows
import Derived.WalkKit
import Derived.WalkSpells
import Derived.Lib.Hide
import Derived.Handy
import Derived.Deep.Draws
import Derived.Deep.QuietTactic
import Derived.BigQuiet
import Derived.Deep.RegionHeld3
import Derived.Deep.LoopGhost
import Derived.Deep.Light
import Derived.Deep.CutBlock
import Derived.Deep.DeepCutAuto
import Derived.Deep.RegionWith
import Derived.StillTailTactics
import Derived.IntWalk
import Derived.Test.YthhphbaimpcjfaaNum
namespace Go.Proofs.Ythhphbaimpcjfaa
open Go.RowKit

theorem cell_lt {w : World} {p : Addr} {v : Value} (h : w.cell? p = some v) : p.block < w.heap.size := by
  apply Decidable.byContradiction
  intro k
  have e : w.heap[p.block]? = none := by simp; omega
  simp [World.cell?, e] at h
theorem keep_cell {W w1 : World} (hb : Below W.heap.size W w1) {p : Addr} {v : Value} (h : W.cell? p = some v) : w1.cell? p = some v := by
  rw [hb.cell (cell_lt h)]; exact h
theorem keep_alloc {w : World} {p : Addr} {v : Value} (h : w.cell? p = some v) (o : Obj) : (w.alloc o).cell? p = some v := keep_cell ((Below.refl _ _).alloc (Nat.le_refl _) o) h
theorem keep_frozen {W w1 : World} (hb : Below W.heap.size W w1) {p : Addr} (hp : p.block < W.heap.size) (h : W.frozen? p = false) : w1.frozen? p = false := by
  rw [hb.frozen hp]; exact h
theorem keep_melt {W w1 : World} {p : Addr} {v : Value} (hb : Below W.heap.size W w1) (hc : W.cell? p = some v) (h : W.frozen? p = false) : w1.frozen? p = false := keep_frozen hb (cell_lt hc) h
theorem keep_set {w : World} {p a : Addr} {v : Value} (h : w.cell? p = some v) (u : Value) (hne : p.block ≠ a.block) : (w.setCell a u).cell? p = some v := by
  rw [World.cell?_of_block (w := w) (Below.heap_setCell w a u p.block hne)]; exact h
theorem below_drewN {B : Nat} {a w : World} (h : Below B a w) (n : Nat) : Below B a (w.drewN n) := ⟨h.os, h.tape, h.output, h.size, h.block⟩
theorem below_step {w a b : World} (h : Below w.heap.size w a) (k : Below a.heap.size a b) : Below w.heap.size w b := h.trans (k.mono h.size)

/-- A limb. -/
abbrev lv (x : Nat) : Value := .int .u32 (x : Int)

/-- The slice at A of length n reads as the limbs xs. -/
structure Lim (w : World) (A : Option Addr) (n c : Nat) (xs : List Nat) : Prop where
  len : xs.length = n
  cap : n ≤ c
  top : c ≤ 9223372036854775807
  at_ : ∀ j (h : j < xs.length), ∃ ad, A = some ad ∧ w.cell? (ad.add j) = some (lv xs[j])
  lo : Lo xs

section
variable {w w' : World} {A : Option Addr} {n c : Nat} {xs : List Nat}
theorem Lim.next (h : Lim w A n c xs) (hb : Below w.heap.size w w') : Lim w' A n c xs :=
  ⟨h.len, h.cap, h.top, fun j hj => by
    obtain ⟨ad, e, hc⟩ := h.at_ j hj
    exact ⟨ad, e, keep_cell hb hc⟩, h.lo⟩
theorem Lim.drewN (h : Lim w A n c xs) (k : Nat) : Lim (w.drewN k) A n c xs := ⟨h.len, h.cap, h.top, h.at_, h.lo⟩
theorem Lim.drew (h : Lim w A n c xs) : Lim w.drew A n c xs := ⟨h.len, h.cap, h.top, h.at_, h.lo⟩
theorem Lim.alloc (h : Lim w A n c xs) (o : Obj) : Lim (w.alloc o) A n c xs := h.next ((Below.refl _ _).alloc (Nat.le_refl _) o)
theorem Lim.none_ (w : World) (A : Option Addr) (c : Nat) (hc : c ≤ 9223372036854775807) : Lim w A 0 c [] := ⟨rfl, Nat.zero_le _, hc, fun j hj => absurd hj (by simp), .nil⟩
theorem Lim.take (h : Lim w A n c xs) {k : Nat} (hk : k ≤ n) : Lim w A k c (xs.take k) :=
  ⟨by have := h.len; simp; omega, Nat.le_trans hk h.cap, h.top, fun j hj => by
    have hj' : j < xs.length := by simp at hj; omega
    obtain ⟨ad, e, hc⟩ := h.at_ j hj'
    exact ⟨ad, e, by simpa using hc⟩, h.lo.take k⟩
theorem Lim.cell {ad : Addr} (h : Lim w (some ad) n c xs) (j : Nat) (hj : j < xs.length) : w.cell? (ad.add j) = some (lv xs[j]) := by
  obtain ⟨ad', e, hc⟩ := h.at_ j hj
  injection e with e
  subst e
  exact hc
theorem Lim.some_ (h : Lim w A n c xs) (hn : 0 < n) : ∃ ad, A = some ad := by
  obtain ⟨ad, e, _⟩ := h.at_ 0 (by have := h.len; omega)
  exact ⟨ad, e⟩
end

/-- What a call answers that makes a natural. -/
def RetN (r : Nat) (w : World) (e : Ending) (w' : World) : Prop := ∃ A n c, e = .returned (.slice A n c) ∧ Lim w' A n c (limbs r) ∧ Below w.heap.size w w'
/-- .. and an error. -/
def RetE (r : Nat) (k : Int) (w : World) (e : Ending) (w' : World) : Prop := ∃ A n c, e = .returned (.tuple #[.slice A n c, .int .i64 k]) ∧ Lim w' A n c (limbs r) ∧ Below w.heap.size w w'
end Go.Proofs.Ythhphbaimpcjfaa
