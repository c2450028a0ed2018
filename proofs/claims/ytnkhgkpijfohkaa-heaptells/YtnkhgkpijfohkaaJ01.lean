/- Limbs in memory: what a slice of limbs reads as, and what stays. A slice reads as items; it, whatever a call makes of its own. Blocks that a call has made, and writes into. A row of items that a call makes of its own; append. A row of items that a call turns in place: nothing else turns. slices.swapRangeCmpFunc: two stretches change places. slices.rotateCmpFunc: two stretches beside one another change places. Plain arithmetic of numbers of 128 bits as two words: no program in sight. The walks of package wide: Of, Full, compare, Cmp, Add, Sub. The walk of wide.Mul. -/
import Derived.Test.YtnkhgkpijfohkaaRows
import Derived.WalkKit
import Derived.WalkSpells
import Derived.Lib.Hide
import Derived.Handy
import Derived.Deep.Draws
import Derived.Deep.QuietTactic
import Derived.BigQuiet
import Derived.Deep.RegionHeld3
import Derived.Deep.LoopGhost
import Derived.Deep.Light
import Derived.Deep.CutBlock
import Derived.Deep.DeepCutAuto
import Derived.Deep.RegionWith
import Derived.StillTailTactics
import Derived.IntWalk
import Derived.Test.YtnkhgkpijfohkaaJ00
import Derived.Laws.AppendOwn
import Derived.Laws.AppendOwnNone
import Derived.BigRegion
import Derived.Test.YtnkhgkpijfohkaaShelf
import Derived.Laws.Externs
import Derived.Shelf.Spec.BitsCarry
import Derived.Deep.DeepFit
namespace Go.Proofs.Ytnkhgkpijfohkaa
open Go.RowKit

theorem cell_lt {w : World} {p : Addr} {v : Value} (h : w.cell? p = some v) : p.block < w.heap.size := by
  apply Decidable.byContradiction
  intro k
  have e : w.heap[p.block]? = none := by simp; omega
  simp [World.cell?, e] at h
theorem keep_cell {W w1 : World} (hb : Below W.heap.size W w1) {p : Addr} {v : Value} (h : W.cell? p = some v) : w1.cell? p = some v := by
  rw [hb.cell (cell_lt h)]; exact h
theorem keep_alloc {w : World} {p : Addr} {v : Value} (h : w.cell? p = some v) (o : Obj) : (w.alloc o).cell? p = some v := keep_cell ((Below.refl _ _).alloc (Nat.le_refl _) o) h
theorem keep_frozen {W w1 : World} (hb : Below W.heap.size W w1) {p : Addr} (hp : p.block < W.heap.size) (h : W.frozen? p = false) : w1.frozen? p = false := by
  rw [hb.frozen hp]; exact h
theorem keep_melt {W w1 : World} {p : Addr} {v : Value} (hb : Below W.heap.size W w1) (hc : W.cell? p = some v) (h : W.frozen? p = false) : w1.frozen? p = false := keep_frozen hb (cell_lt hc) h
theorem keep_set {w : World} {p a : Addr} {v : Value} (h : w.cell? p = some v) (u : Value) (hne : p.block ≠ a.block) : (w.setCell a u).cell? p = some v := by
  rw [World.cell?_of_block (w := w) (Below.heap_setCell w a u p.block hne)]; exact h
theorem below_drewN {B : Nat} {a w : World} (h : Below B a w) (n : Nat) : Below B a (w.drewN n) := ⟨h.os, h.tape, h.output, h.size, h.block⟩
theorem below_step {w a b : World} (h : Below w.heap.size w a) (k : Below a.heap.size a b) : Below w.heap.size w b := h.trans (k.mono h.size)

/-- A limb. -/
abbrev lv (x : Nat) : Value := .int .u32 (x : Int)

/-- The slice at A of length n reads as the limbs xs. -/
structure Lim (w : World) (A : Option Addr) (n c : Nat) (xs : List Nat) : Prop where
  len : xs.length = n
  cap : n ≤ c
  top : c ≤ 9223372036854775807
  at_ : ∀ j (h : j < xs.length), ∃ ad, A = some ad ∧ w.cell? (ad.add j) = some (lv xs[j])
  lo : Lo xs

section
variable {w w' : World} {A : Option Addr} {n c : Nat} {xs : List Nat}
theorem Lim.next (h : Lim w A n c xs) (hb : Below w.heap.size w w') : Lim w' A n c xs :=
  ⟨h.len, h.cap, h.top, fun j hj => by
    obtain ⟨ad, e, hc⟩ := h.at_ j hj
    exact ⟨ad, e, keep_cell hb hc⟩, h.lo⟩
theorem Lim.drewN (h : Lim w A n c xs) (k : Nat) : Lim (w.drewN k) A n c xs := ⟨h.len, h.cap, h.top, h.at_, h.lo⟩
theorem Lim.drew (h : Lim w A n c xs) : Lim w.drew A n c xs := ⟨h.len, h.cap, h.top, h.at_, h.lo⟩
theorem Lim.alloc (h : Lim w A n c xs) (o : Obj) : Lim (w.alloc o) A n c xs := h.next ((Below.refl _ _).alloc (Nat.le_refl _) o)
theorem Lim.none_ (w : World) (A : Option Addr) (c : Nat) (hc : c ≤ 9223372036854775807) : Lim w A 0 c [] := ⟨rfl, Nat.zero_le _, hc, fun j hj => absurd hj (by simp), .nil⟩
theorem Lim.take (h : Lim w A n c xs) {k : Nat} (hk : k ≤ n) : Lim w A k c (xs.take k) :=
  ⟨by have := h.len; simp; omega, Nat.le_trans hk h.cap, h.top, fun j hj => by
    have hj' : j < xs.length := by simp at hj; omega
    obtain ⟨ad, e, hc⟩ := h.at_ j hj'
    exact ⟨ad, e, by simpa using hc⟩, h.lo.take k⟩
theorem Lim.cell {ad : Addr} (h : Lim w (some ad) n c xs) (j : Nat) (hj : j < xs.length) : w.cell? (ad.add j) = some (lv xs[j]) := by
  obtain ⟨ad', e, hc⟩ := h.at_ j hj
  injection e with e
  subst e
  exact hc
theorem Lim.some_ (h : Lim w A n c xs) (hn : 0 < n) : ∃ ad, A = some ad := by
  obtain ⟨ad, e, _⟩ := h.at_ 0 (by have := h.len; omega)
  exact ⟨ad, e⟩
end

/-- What a call answers that makes a natural. -/
def RetN (r : Nat) (w : World) (e : Ending) (w' : World) : Prop := ∃ A n c, e = .returned (.slice A n c) ∧ Lim w' A n c (limbs r) ∧ Below w.heap.size w w'
/-- .. and an error. -/
def RetE (r : Nat) (k : Int) (w : World) (e : Ending) (w' : World) : Prop := ∃ A n c, e = .returned (.tuple #[.slice A n c, .int .i64 k]) ∧ Lim w' A n c (limbs r) ∧ Below w.heap.size w w'
end Go.Proofs.Ytnkhgkpijfohkaa
namespace Go.Proofs.Ytnkhgkpijfohkaa
open Go.RowKit
theorem add_next (ad : Addr) (k : Nat) : (⟨(ad.add k).block, (ad.add k).off + 1, none⟩ : Addr) = ad.add (k + 1) := by
  unfold Addr.add
  rw [if_neg (Nat.succ_ne_zero k)]
  split
  · rename_i h; rw [h]
  · simp [Nat.add_assoc]
theorem add_next2 (ad : Addr) (k : Nat) : (⟨(ad.add k).block, (ad.add k).off + 2, none⟩ : Addr) = ad.add (k + 2) := by
  unfold Addr.add
  rw [if_neg (Nat.succ_ne_zero (k + 1))]
  split
  · rename_i h; rw [h]
  · simp [Nat.add_assoc]
/-- The slice at A of length n reads as the items s. -/
structure Its (W : World) (A : Option Addr) (n c : Nat) (s : List It) : Prop where
  len : s.length = n
  cap : n ≤ c
  top : c ≤ 9223372036854775807
  at_ : ∀ j (h : j < s.length), ∃ ad, A = some ad ∧ W.cell? (ad.add (j * 3)) = some (.string s[j].k) ∧ W.cell? (ad.add (j * 3 + 1)) = some (.int .u64 (s[j].u : Int)) ∧ W.cell? (ad.add (j * 3 + 2)) = some (.int .u64 (s[j].w : Int))
  fit : ∀ x ∈ s, x.Fit
section
variable {W W' : World} {A : Option Addr} {n c : Nat} {s : List It}
theorem Its.none_ (W : World) (n c : Nat) (h : n = 0) (hc : c ≤ 9223372036854775807) : Its W none n c [] :=
  ⟨h ▸ rfl, by omega, hc, fun j hj => absurd hj (by simp), fun s hs => absurd hs (by simp)⟩
theorem Its.next (h : Its W A n c s) (hb : Below W.heap.size W W') : Its W' A n c s :=
  ⟨h.len, h.cap, h.top, fun j hj => by
    obtain ⟨ad, e, h0, h1, h2⟩ := h.at_ j hj
    exact ⟨ad, e, keep_cell hb h0, keep_cell hb h1, keep_cell hb h2⟩, h.fit⟩
theorem Its.alloc (h : Its W A n c s) (o : Obj) : Its (W.alloc o) A n c s := h.next ((Below.refl _ _).alloc (Nat.le_refl _) o)
theorem Its.drew (h : Its W A n c s) : Its W.drew A n c s := ⟨h.len, h.cap, h.top, h.at_, h.fit⟩
/-- .. as the walk reads it. -/
theorem Its.read (h : Its W A n c s) (j : Nat) (hj : j < n) : ∃ (ad : Addr) (hj' : j < s.length), A = some ad ∧ W.cell? (ad.add (j * 3)) = some (.string s[j].k) ∧ W.cell? ⟨(ad.add (j * 3)).block, (ad.add (j * 3)).off + 1, none⟩ = some (.int .u64 (s[j].u : Int)) ∧ W.cell? ⟨(ad.add (j * 3)).block, (ad.add (j * 3)).off + 2, none⟩ = some (.int .u64 (s[j].w : Int)) ∧ s[j].Fit := by
  have hj' : j < s.length := by rw [h.len]; exact hj
  obtain ⟨ad, e, h0, h1, h2⟩ := h.at_ j hj'
  exact ⟨ad, hj', e, h0, by rw [add_next]; exact h1, by rw [add_next2]; exact h2, h.fit _ (List.getElem_mem hj')⟩
end
end Go.Proofs.Ytnkhgkpijfohkaa
namespace Go.Proofs.Ytnkhgkpijfohkaa
open Go.RowKit
theorem below_al {w a : World} (h : Below w.heap.size w a) (o : Obj) : Below w.heap.size w (a.alloc o) := h.alloc h.size o

/-- Block g is just these cells, and may be written. -/
def Box (w : World) (g : Nat) (cs : Array Value) : Prop := ∃ t, w.heap[g]? = some (.cells cs t (0, 0))
section
variable {w w' : World} {g : Nat} {cs : Array Value}
theorem Box.lt (h : Box w g cs) : g < w.heap.size := by obtain ⟨_, h⟩ := h; exact (Array.getElem?_eq_some_iff.1 h).1
theorem Box.cell (h : Box w g cs) {i : Nat} {v : Value} (hi : cs[i]? = some v) : w.cell? ⟨g, i, none⟩ = some v := by
  obtain ⟨_, h⟩ := h
  simp [World.cell?, h, hi]
theorem Box.melt (h : Box w g cs) (i : Nat) : w.frozen? ⟨g, i, none⟩ = false := by
  obtain ⟨_, h⟩ := h
  simp [World.frozen?, h]
theorem Box.drew (h : Box w g cs) : Box w.drew g cs := h
theorem Box.next (h : Box w g cs) (hb : Below w.heap.size w w') : Box w' g cs := by
  have l := h.lt
  obtain ⟨t, h⟩ := h
  exact ⟨t, (hb.block g l).trans h⟩
theorem Box.alloc (h : Box w g cs) (o : Obj) : Box (w.alloc o) g cs := h.next ((Below.refl _ _).alloc (Nat.le_refl _) o)
theorem Box.far (h : Box w g cs) {p : Addr} (hp : g ≠ p.block) (u : Value) : Box (w.setCell p u) g cs := by
  obtain ⟨t, h⟩ := h
  exact ⟨t, (Below.heap_setCell w p u g hp).trans h⟩
theorem Box.set (h : Box w g cs) (i : Nat) (u : Value) : Box (w.setCell ⟨g, i, none⟩ u) g (cs.setIfInBounds i u) := by
  obtain ⟨t, h⟩ := h
  exact ⟨t, by simp [World.setCell, Array.getElem?_modify, h]⟩
theorem Box.new (w : World) (cs : Array Value) (t : TypeId) : Box (w.alloc (.cells cs t)) w.heap.size cs := ⟨t, heap_alloc_new w _⟩
end
theorem below_set {B : Nat} {w W : World} (h : Below B w W) {p : Addr} (hp : B ≤ p.block) (u : Value) : Below B w (W.setCell p u) :=
  ⟨h.os, h.tape, h.output, by rw [show (W.setCell p u).heap.size = W.heap.size by simp [World.setCell]]; exact h.size, fun k hk => (Below.heap_setCell W p u k (by omega)).trans (h.block k hk)⟩

/-- Duo blocks of the call's own; below them nothing has turned. -/
structure Duo (w : World) (g r : Nat) (cs ds : Array Value) (W : World) : Prop where
  bg : Box W g cs
  br : Box W r ds
  ne : g ≠ r
  hg : w.heap.size ≤ g
  hr : w.heap.size ≤ r
  bl : Below w.heap.size w W
section
variable {w W W' : World} {g r : Nat} {cs ds : Array Value}
theorem Duo.drew (h : Duo w g r cs ds W) : Duo w g r cs ds W.drew := ⟨h.bg, h.br, h.ne, h.hg, h.hr, h.bl.drew⟩
theorem Duo.next (h : Duo w g r cs ds W) (hb : Below W.heap.size W W') : Duo w g r cs ds W' := ⟨h.bg.next hb, h.br.next hb, h.ne, h.hg, h.hr, below_step h.bl hb⟩
theorem Duo.set (h : Duo w g r cs ds W) (i : Nat) (u : Value) : Duo w g r (cs.setIfInBounds i u) ds (W.setCell ⟨g, i, none⟩ u) :=
  ⟨h.bg.set i u, h.br.far (Ne.symm h.ne) u, h.ne, h.hg, h.hr, below_set h.bl h.hg u⟩
theorem Duo.new (w : World) (cs ds : Array Value) (t t' : TypeId) : Duo w w.heap.size (w.heap.size + 1) cs ds ((w.alloc (.cells cs t)).alloc (.cells ds t')) :=
  ⟨(Box.new w cs t).alloc _, by simpa using Box.new (w.alloc (.cells cs t)) ds t', by omega, Nat.le_refl _, by omega, below_al ((Below.refl _ _).alloc (Nat.le_refl _) _) _⟩
end
theorem Duo.swap {w W : World} {g r : Nat} {cs ds : Array Value} (h : Duo w g r cs ds W) : Duo w r g ds cs W := ⟨h.br, h.bg, Ne.symm h.ne, h.hr, h.hg, h.bl⟩
theorem Duo.put4 {w W : World} {g r : Nat} {cs : Array Value} {z0 z1 z2 z3 : Value} (h : Duo w g r cs #[z0, z1, z2, z3] W) (a b c d : Value) :
    Duo w g r cs #[a, b, c, d] ((((W.setCell ⟨r, 0, none⟩ a).setCell ⟨r, 1, none⟩ b).setCell ⟨r, 2, none⟩ c).setCell ⟨r, 3, none⟩ d) :=
  ((((h.swap.set 0 a).set 1 b).set 2 c).set 3 d).swap
/-- One block of the call's own. -/
structure One (w : World) (g : Nat) (cs : Array Value) (W : World) : Prop where
  bg : Box W g cs
  hg : w.heap.size ≤ g
  bl : Below w.heap.size w W
section
variable {w W W' : World} {g : Nat} {cs : Array Value}
theorem One.drew (h : One w g cs W) : One w g cs W.drew := ⟨h.bg, h.hg, h.bl.drew⟩
theorem One.next (h : One w g cs W) (hb : Below W.heap.size W W') : One w g cs W' := ⟨h.bg.next hb, h.hg, below_step h.bl hb⟩
theorem One.set (h : One w g cs W) (i : Nat) (u : Value) : One w g (cs.setIfInBounds i u) (W.setCell ⟨g, i, none⟩ u) := ⟨h.bg.set i u, h.hg, below_set h.bl h.hg u⟩
theorem One.new (w : World) (cs : Array Value) (t : TypeId) : One w w.heap.size cs (w.alloc (.cells cs t)) := ⟨Box.new w cs t, Nat.le_refl _, (Below.refl _ _).alloc (Nat.le_refl _) _⟩
theorem One.put4 {z0 z1 z2 z3 : Value} (h : One w g #[z0, z1, z2, z3] W) (a b c d : Value) :
    One w g #[a, b, c, d] ((((W.setCell ⟨g, 0, none⟩ a).setCell ⟨g, 1, none⟩ b).setCell ⟨g, 2, none⟩ c).setCell ⟨g, 3, none⟩ d) :=
  (((h.set 0 a).set 1 b).set 2 c).set 3 d
end
theorem Box.two {w : World} {g : Nat} {a b : Value} (h : Box w g #[a, b]) : w.cell? ⟨g, 0, none⟩ = some a ∧ w.cell? ⟨g, 1, none⟩ = some b := ⟨h.cell rfl, h.cell rfl⟩
theorem One.two {w W : World} {g : Nat} {cs : Array Value} (h : One w g cs W) (ds : Array Value) (t : TypeId) : Duo w g W.heap.size cs ds (W.alloc (.cells ds t)) :=
  ⟨h.bg.alloc _, Box.new _ _ _, by have := h.bg.lt; omega, h.hg, h.bl.size, below_al h.bl _⟩
theorem Duo.put2 {w W : World} {g r : Nat} {cs : Array Value} {z0 z1 : Value} (h : Duo w g r cs #[z0, z1] W) (a b : Value) :
    Duo w g r cs #[a, b] ((W.setCell ⟨r, 0, none⟩ a).setCell ⟨r, 1, none⟩ b) :=
  ((h.swap.set 0 a).set 1 b).swap
theorem Box.three {w : World} {g : Nat} {a b c : Value} (h : Box w g #[a, b, c]) : w.cell? ⟨g, 0, none⟩ = some a ∧ w.cell? ⟨g, 1, none⟩ = some b ∧ w.cell? ⟨g, 2, none⟩ = some c := ⟨h.cell rfl, h.cell rfl, h.cell rfl⟩
theorem Duo.put3 {w W : World} {g r : Nat} {cs : Array Value} {z0 z1 z2 : Value} (h : Duo w g r cs #[z0, z1, z2] W) (a b c : Value) :
    Duo w g r cs #[a, b, c] (((W.setCell ⟨r, 0, none⟩ a).setCell ⟨r, 1, none⟩ b).setCell ⟨r, 2, none⟩ c) :=
  (((h.swap.set 0 a).set 1 b).set 2 c).swap
end Go.Proofs.Ytnkhgkpijfohkaa
namespace Go.Proofs.Ytnkhgkpijfohkaa
open Go.RowKit
set_option linter.unusedVariables false
set_option linter.unusedSimpArgs false
/-- The cells of items. -/
def icells (s : List It) : List Value := s.flatMap fun x => [.string x.k, .int .u64 (x.u : Int), .int .u64 (x.w : Int)]
theorem icells_cons (x : It) (s : List It) : icells (x :: s) = .string x.k :: .int .u64 (x.u : Int) :: .int .u64 (x.w : Int) :: icells s := rfl
theorem icells_app (s t : List It) : icells (s ++ t) = icells s ++ icells t := List.flatMap_append ..
theorem icells_len : ∀ s : List It, (icells s).length = s.length * 3
  | [] => rfl
  | x :: s => by rw [icells_cons]; simp only [List.length_cons, icells_len s]; omega
theorem icells_at : ∀ (s : List It) (j : Nat) (h : j < s.length), (icells s)[j * 3]? = some (.string s[j].k) ∧ (icells s)[j * 3 + 1]? = some (.int .u64 (s[j].u : Int)) ∧ (icells s)[j * 3 + 2]? = some (.int .u64 (s[j].w : Int))
  | x :: s, 0, _ => ⟨rfl, rfl, rfl⟩
  | x :: s, j + 1, h => by
    have hj : j < s.length := by simpa using h
    rw [icells_cons, show (j + 1) * 3 = j * 3 + 1 + 1 + 1 by omega, show j * 3 + 1 + 1 + 1 + 1 = (j * 3 + 1) + 1 + 1 + 1 by omega, show j * 3 + 1 + 1 + 1 + 2 = (j * 3 + 2) + 1 + 1 + 1 by omega]
    simp only [List.getElem?_cons_succ, List.getElem_cons_succ]
    exact icells_at s j hj
theorem icells_one {s : List It} {u : Value} (h : u ∈ icells s) : u.oneCell' = true := by
  unfold icells at h
  rw [List.mem_flatMap] at h
  obtain ⟨x, _, h⟩ := h
  simp only [List.mem_cons, List.not_mem_nil, or_false] at h
  rcases h with rfl | rfl | rfl <;> rfl
/-- Every cell is one of an item's. -/
theorem icells_cell {s : List It} {i : Nat} {u : Value} (h : (icells s)[i]? = some u) : ∃ (j : Nat) (hj : j < s.length), (i = j * 3 ∧ u = .string s[j].k) ∨ (i = j * 3 + 1 ∧ u = .int .u64 (s[j].u : Int)) ∨ (i = j * 3 + 2 ∧ u = .int .u64 (s[j].w : Int)) := by
  have hi := (List.getElem?_eq_some_iff.1 h).1
  rw [icells_len] at hi
  have hj : i / 3 < s.length := by omega
  obtain ⟨a0, a1, a2⟩ := icells_at s (i / 3) hj
  refine ⟨i / 3, hj, ?_⟩
  rcases (by omega : i = i / 3 * 3 ∨ i = i / 3 * 3 + 1 ∨ i = i / 3 * 3 + 2) with e | e | e
  · rw [← e, h] at a0; exact .inl ⟨e, Option.some.inj a0⟩
  · rw [← e, h] at a1; exact .inr (.inl ⟨e, Option.some.inj a1⟩)
  · rw [← e, h] at a2; exact .inr (.inr ⟨e, Option.some.inj a2⟩)
theorem Its.cells {W : World} {A : Option Addr} {n c : Nat} {s : List It} {ad : Addr} (h : Its W A n c s) (e : A = some ad) : ∀ j u, (icells s)[j]? = some u → W.cell? (ad.add j) = some u := by
  intro i u hu
  obtain ⟨j, hj, h3⟩ := icells_cell hu
  obtain ⟨ad', e', a0, a1, a2⟩ := h.at_ j hj
  rw [e] at e'
  obtain rfl := Option.some.inj e'
  rcases h3 with ⟨rfl, rfl⟩ | ⟨rfl, rfl⟩ | ⟨rfl, rfl⟩
  · exact a0
  · exact a1
  · exact a2
/-- The row v of the items s, of blocks from b on. -/
structure Rw (b : Nat) (v : Value) (s : List It) (W : World) : Prop where
  own : W.ownsRow b 25 3 v s.length (icells s)
  fit : ∀ x ∈ s, x.Fit
theorem Rw.nil (b : Nat) (W : World) : Rw b (.slice none 0 0) [] W := ⟨World.ownsRow_nil _ _ _ _, fun x h => absurd h (by simp)⟩
theorem Rw.mono {b b' : Nat} {v : Value} {s : List It} {W : World} (h : Rw b v s W) (hb : b' ≤ b) : Rw b' v s W := by
  refine ⟨⟨h.own.1, ?_⟩, h.fit⟩
  rcases h.own.2 with q | ⟨g, cap, cur, e, a, r⟩
  · exact .inl q
  · exact .inr ⟨g, cap, cur, e, Nat.le_trans hb a, r⟩
theorem Rw.next {b : Nat} {v : Value} {s : List It} {W W' : World} (h : Rw b v s W) (hb : Below W.heap.size W W') : Rw b v s W' := by
  refine ⟨⟨h.own.1, ?_⟩, h.fit⟩
  rcases h.own.2 with q | ⟨g, cap, cur, e, a, r, t⟩
  · exact .inl q
  · exact .inr ⟨g, cap, cur, e, a, (hb.block g (Array.getElem?_eq_some_iff.1 r).1).trans r, t⟩
theorem Rw.drew {b : Nat} {v : Value} {s : List It} {W : World} (h : Rw b v s W) : Rw b v s W.drew := ⟨h.own, h.fit⟩
/-- Its two forms. -/
theorem Rw.form {b : Nat} {v : Value} {s : List It} {W : World} (h : Rw b v s W) : (v = .slice none 0 0 ∧ s = []) ∨ ∃ g cap, v = .slice (some ⟨g, 0, none⟩) s.length cap ∧ b ≤ g ∧ g < W.heap.size ∧ s.length ≤ cap ∧ cap ≤ 9223372036854775807 ∧ Its W (some ⟨g, 0, none⟩) s.length cap s := by
  rcases h.own.2 with ⟨a, b⟩ | ⟨g, cap, cur, e, a, r, h1, h2, h3, h4⟩
  · exact .inl ⟨a, List.eq_nil_of_length_eq_zero b⟩
  · unfold maxLen at h2
    refine .inr ⟨g, cap, e, a, (Array.getElem?_eq_some_iff.1 r).1, h1, by omega, rfl, h1, by omega, fun j hj => ⟨_, rfl, ?_⟩, h.fit⟩
    have at_ : ∀ (i : Nat) (u : Value), i < s.length * 3 → (icells s)[i]? = some u → W.cell? ((⟨g, 0, none⟩ : Addr).add i) = some u := by
      intro i u hi hu
      have ea : (⟨g, 0, none⟩ : Addr).add i = ⟨g, i, none⟩ := by unfold Addr.add; split <;> simp_all
      rw [ea]
      rw [← h4, List.getElem?_take_of_lt hi] at hu
      have hu2 : cur[i]? = some u := by simpa using hu
      simp [World.cell?, r, hu2]
    obtain ⟨a0, a1, a2⟩ := icells_at s j hj
    exact ⟨at_ _ _ (by omega) a0, at_ _ _ (by omega) a1, at_ _ _ (by omega) a2⟩
theorem Rw.slice {b : Nat} {v : Value} {s : List It} {W : World} (h : Rw b v s W) : ∃ A c, v = .slice A s.length c ∧ Its W A s.length c s ∧ (A = none → c = 0) ∧ ∀ ad, A = some ad → ∃ g, ad = ⟨g, 0, none⟩ ∧ b ≤ g ∧ g < W.heap.size := by
  rcases h.form with ⟨rfl, rfl⟩ | ⟨g, cap, rfl, h1, h2, h3, h4, h5⟩
  · exact ⟨none, 0, rfl, Its.none_ _ _ _ rfl (by decide), fun _ => rfl, fun ad e => absurd e (by simp)⟩
  · exact ⟨_, cap, rfl, h5, fun e => absurd e (by simp), fun ad e => ⟨g, (Option.some.inj e).symm, h1, h2⟩⟩
/-- A stretch of what a slice reads as. -/
theorem Its.part {W : World} {A : Option Addr} {n c : Nat} {s : List It} (h : Its W A n c s) {g : Nat} (e : A = some ⟨g, 0, none⟩) (i m d : Nat) (him : i + m ≤ n) (hd : m ≤ d) (hd2 : d ≤ 9223372036854775807) : Its W (some ⟨g, i * 3, none⟩) m d ((s.drop i).take m) := by
  subst e
  have hl := h.len
  refine ⟨by rw [List.length_take, List.length_drop]; omega, hd, hd2, fun j hj => ⟨_, rfl, ?_⟩, fun x hx => h.fit x (List.mem_of_mem_drop (List.mem_of_mem_take hx))⟩
  have hj2 : j < m := by rw [List.length_take] at hj; omega
  obtain ⟨ad, e, a0, a1, a2⟩ := h.at_ (i + j) (by omega)
  obtain rfl := Option.some.inj e
  have ea : ∀ k l : Nat, k + l = (i + j) * 3 + (k + l - (i + j) * 3) → True := fun _ _ _ => trivial
  have e1 : ∀ k : Nat, (⟨g, i * 3, none⟩ : Addr).add (j * 3 + k) = (⟨g, 0, none⟩ : Addr).add ((i + j) * 3 + k) := by
    intro k
    unfold Addr.add
    (repeat' split) <;> simp_all <;> omega
  have e2 : ((s.drop i).take m)[j] = s[i + j] := by rw [List.getElem_take, List.getElem_drop]
  rw [e2]
  refine ⟨?_, ?_, ?_⟩
  · rw [show j * 3 = j * 3 + 0 from rfl, e1]; exact a0
  · rw [e1]; exact a1
  · rw [e1]; exact a2
theorem Its.front {W : World} {A : Option Addr} {n c : Nat} {s : List It} (h : Its W A n c s) (p : Nat) (hp : p ≤ n) : Its W A p c (s.take p) := by
  have hl := h.len
  have hc := h.cap
  refine ⟨by rw [List.length_take]; omega, by omega, h.top, fun j hj => ?_, fun x hx => h.fit x (List.mem_of_mem_take hx)⟩
  rw [List.length_take] at hj
  obtain ⟨ad, e, a0, a1, a2⟩ := h.at_ j (by omega)
  rw [List.getElem_take]
  exact ⟨ad, e, a0, a1, a2⟩
theorem Its.new (W : World) (x : It) (hx : x.Fit) (t : TypeId) : Its (W.alloc (.cells #[.string x.k, .int .u64 (x.u : Int), .int .u64 (x.w : Int)] t)) (some ⟨W.heap.size, 0, none⟩) 1 1 [x] := by
  have M := Box.new W #[.string x.k, .int .u64 (x.u : Int), .int .u64 (x.w : Int)] t
  obtain ⟨c0, c1, c2⟩ := M.three
  refine ⟨rfl, Nat.le_refl _, by decide, fun j hj => ⟨_, rfl, ?_⟩, fun y hy => by rw [List.mem_singleton] at hy; rw [hy]; exact hx⟩
  obtain rfl : j = 0 := by simpa using hj
  exact ⟨c0, c1, c2⟩
theorem Its.zero (W : World) (A : Option Addr) (c : Nat) (hc : c ≤ 9223372036854775807) : Its W A 0 c [] :=
  ⟨rfl, Nat.zero_le _, hc, fun j hj => absurd hj (by simp), fun x hx => absurd hx (by simp)⟩
/-- append, in a walk. -/
theorem wpList_appI {ops : Array Oper} {rest : List Oper} {o : Oper} {a : Act} {Q : Exit → Act → World → Prop} {W : World} (hgd : o.guard = none) (s x : Operand)
    (ho : o.op = .call { callee := .builtin .append, args := #[s, x], argTypes := #[22, 22] }) {b : Nat} {v : Value} {l m : List It} (hs : a.eval s = v) (R : Rw b v l W) (hb : b ≤ W.heap.size)
    {A : Option Addr} {n c : Nat} (hx : a.eval x = .slice A n c) (I : Its W A n c m) (hc : A = none → c = 0) (small : l.length + m.length ≤ 1000000)
    (hK : ∀ v' W', Rw b v' (l ++ m) W' → Below b W W' → wpList Try.prog ops Q rest (a.put o.dst v') W') : wpList Try.prog ops Q (o :: rest) a W := by
  have hi : (Try.prog.info? 25).map (fun i => (i.zero, i.size, i.bytes)) = some (some (.agg #[.string ⟨#[]⟩, .int .u64 0, .int .u64 0]), 3, 32) := by kernel_rfl
  cases hq : Try.prog.info? 25 with
  | none => simp [hq] at hi
  | some i =>
    obtain ⟨h1, h2, h3⟩ : i.zero = some (.agg #[.string ⟨#[]⟩, .int .u64 0, .int .u64 0]) ∧ i.size = 3 ∧ i.bytes = 32 := by simpa [hq] using hi
    have fit : ∀ y ∈ l ++ m, y.Fit := fun y hy => (List.mem_append.1 hy).elim (R.fit y) (I.fit y)
    cases A with
    | none =>
      obtain rfl := hc rfl
      have hm : m = [] := by
        cases m with
        | nil => rfl
        | cons y r => obtain ⟨_, e, _⟩ := I.at_ 0 (by simp); exact absurd e (by simp)
      subst hm
      have hn : n = 0 := by have := I.len; simpa using this.symm
      subst hn
      refine wpList_append_own_none hgd s x 22 ho b 25 i 3 Try.underlying22 hq v l.length (icells l) hs R.own hx ?_
      have := hK v W (by rw [List.append_nil]; exact R) (Below.refl _ _)
      exact this
    | some ad =>
      refine wpList_append_own W hgd s x 22 ho b 25 i _ 3 32 Try.underlying22 hq h1 h2 h3 rfl (by decide) v l.length (icells l) hs R.own ad n c (icells m) hx (by rw [icells_len, I.len]) (I.cells rfl) (fun u hu => icells_one hu)
        (by unfold maxLen; have := I.len; omega) (by have := I.len; omega) hb ?_
      intro v' W' ho' hg _
      have hl := I.len
      refine hK v' W' ⟨?_, fit⟩ ((Below.refl b W).grown hg hb (fun k hk => ?_))
      · rw [List.length_append, hl, icells_app]; exact ho'
      · exact (R.own.lt k hk).1
end Go.Proofs.Ytnkhgkpijfohkaa
namespace Go.Proofs.Ytnkhgkpijfohkaa
open Go.RowKit
set_option linter.unusedVariables false
set_option linter.unusedSimpArgs false
/-- At ad lie the items s; they may be written. -/
structure Row3 (W : World) (ad : Addr) (s : List It) : Prop where
  own : ∃ cs t, W.heap[ad.block]? = some (.cells cs t (0, 0)) ∧ ∀ i u, (icells s)[i]? = some u → cs[ad.off + i]? = some u
  el : ad = ⟨ad.block, ad.off, none⟩
  fit : ∀ x ∈ s, x.Fit
theorem add_at {ad : Addr} (h : ad = ⟨ad.block, ad.off, none⟩) (k : Nat) : ad.add k = ⟨ad.block, ad.off + k, none⟩ := by
  obtain ⟨b, o, sp⟩ := ad
  injection h with _ _ h
  subst h
  unfold Addr.add
  split
  · rename_i e; subst e; rfl
  · rfl
/-- A store of an item at p. -/
def put3 (W : World) (p : Addr) (x : It) : World :=
  ((W.setCell p (.string x.k)).setCell ⟨p.block, p.off + 1, none⟩ (.int .u64 (x.u : Int))).setCell ⟨p.block, p.off + 2, none⟩ (.int .u64 (x.w : Int))
section
variable {w W W' : World} {ad : Addr} {s : List It}
theorem Row3.lt (h : Row3 W ad s) : ad.block < W.heap.size := by obtain ⟨_, _, h, _⟩ := h.own; exact (Array.getElem?_eq_some_iff.1 h).1
theorem Row3.cell (h : Row3 W ad s) {j : Nat} (hj : j < s.length) :
    W.cell? (ad.add (j * 3)) = some (.string (nth s j).k) ∧ W.cell? ⟨(ad.add (j * 3)).block, (ad.add (j * 3)).off + 1, none⟩ = some (.int .u64 ((nth s j).u : Int)) ∧ W.cell? ⟨(ad.add (j * 3)).block, (ad.add (j * 3)).off + 2, none⟩ = some (.int .u64 ((nth s j).w : Int)) := by
  obtain ⟨cs, t, e, hc⟩ := h.own
  obtain ⟨a0, a1, a2⟩ := icells_at s j hj
  rw [add_next, add_next2, add_at h.el, add_at h.el, add_at h.el, nth_eq hj]
  refine ⟨?_, ?_, ?_⟩
  · have := hc _ _ a0; simp [World.cell?, e, this]
  · have := hc _ _ a1; simp [World.cell?, e, this]
  · have := hc _ _ a2; simp [World.cell?, e, this]
theorem Row3.melt (h : Row3 W ad s) (p : Addr) (hp : p.block = ad.block) : W.frozen? p = false := by
  obtain ⟨cs, t, e, hc⟩ := h.own
  simp [World.frozen?, hp, e]
theorem blk_add (h : ad = ⟨ad.block, ad.off, none⟩) (k : Nat) : (ad.add k).block = ad.block := by rw [add_at h]
theorem Row3.ft (h : Row3 W ad s) {j : Nat} (hj : j < s.length) : (nth s j).Fit := h.fit _ (nth_mem hj)
theorem Row3.next (h : Row3 W ad s) (hb : Below W.heap.size W W') : Row3 W' ad s := by
  refine ⟨?_, h.el, h.fit⟩
  have l := h.lt
  obtain ⟨cs, t, e, hc⟩ := h.own
  exact ⟨cs, t, (hb.block _ l).trans e, hc⟩
theorem Row3.drew (h : Row3 W ad s) : Row3 W.drew ad s := ⟨h.own, h.el, h.fit⟩
theorem Row3.its (h : Row3 W ad s) {n c : Nat} (hn : s.length = n) (hc : n ≤ c) (ht : c ≤ 9223372036854775807) : Its W (some ad) n c s := by
  refine ⟨hn, hc, ht, fun j hj => ⟨ad, rfl, ?_⟩, h.fit⟩
  obtain ⟨a, b, c⟩ := h.cell hj
  rw [add_next] at b; rw [add_next2] at c
  rw [nth_eq hj] at a b c
  exact ⟨a, b, c⟩
theorem icells_set {s : List It} {j : Nat} {x : It} (hj : j < s.length) {i : Nat} {u : Value} (h : (icells (s.set j x))[i]? = some u) :
    (i = j * 3 ∧ u = .string x.k) ∨ (i = j * 3 + 1 ∧ u = .int .u64 (x.u : Int)) ∨ (i = j * 3 + 2 ∧ u = .int .u64 (x.w : Int)) ∨ (i ≠ j * 3 ∧ i ≠ j * 3 + 1 ∧ i ≠ j * 3 + 2 ∧ (icells s)[i]? = some u) := by
  obtain ⟨j', hj', h⟩ := icells_cell h
  have hj2 : j' < s.length := by simpa using hj'
  obtain ⟨a0, a1, a2⟩ := icells_at s j' hj2
  by_cases e : j = j'
  · subst e
    rw [List.getElem_set_self] at h
    rcases h with h | h | h
    · exact .inl h
    · exact .inr (.inl h)
    · exact .inr (.inr (.inl h))
  · rw [List.getElem_set_ne e] at h
    refine .inr (.inr (.inr ?_))
    rcases h with ⟨rfl, rfl⟩ | ⟨rfl, rfl⟩ | ⟨rfl, rfl⟩
    · exact ⟨by omega, by omega, by omega, a0⟩
    · exact ⟨by omega, by omega, by omega, a1⟩
    · exact ⟨by omega, by omega, by omega, a2⟩
theorem Row3.put (h : Row3 W ad s) {j : Nat} (hj : j < s.length) {x : It} (hx : x.Fit) : Row3 (put3 W (ad.add (j * 3)) x) ad (s.set j x) := by
  obtain ⟨cs, t, e, hc⟩ := h.own
  have hel := h.el
  have hf : ∀ y ∈ s.set j x, y.Fit := fun y hy => (List.mem_or_eq_of_mem_set hy).elim (h.fit y) (fun e => e ▸ hx)
  obtain ⟨a0, a1, a2⟩ := icells_at s j hj
  have b0 := (Array.getElem?_eq_some_iff.1 (hc _ _ a0)).1
  have b1 := (Array.getElem?_eq_some_iff.1 (hc _ _ a1)).1
  have b2 := (Array.getElem?_eq_some_iff.1 (hc _ _ a2)).1
  refine ⟨⟨((cs.setIfInBounds (ad.off + j * 3) (.string x.k)).setIfInBounds (ad.off + j * 3 + 1) (.int .u64 (x.u : Int))).setIfInBounds (ad.off + j * 3 + 2) (.int .u64 (x.w : Int)), t, ?_, ?_⟩, hel, hf⟩
  · unfold put3
    rw [add_at hel]
    simp [World.setCell, Array.getElem?_modify, e]
  · intro i u hu
    rcases icells_set hj hu with ⟨rfl, rfl⟩ | ⟨rfl, rfl⟩ | ⟨rfl, rfl⟩ | ⟨n0, n1, n2, hu⟩
    · rw [Array.getElem?_setIfInBounds_ne (by omega), Array.getElem?_setIfInBounds_ne (by omega), Array.getElem?_setIfInBounds_self_of_lt (by omega)]
    · rw [show ad.off + (j * 3 + 1) = ad.off + j * 3 + 1 by omega, Array.getElem?_setIfInBounds_ne (by omega), Array.getElem?_setIfInBounds_self_of_lt (by simp; omega)]
    · rw [show ad.off + (j * 3 + 2) = ad.off + j * 3 + 2 by omega, Array.getElem?_setIfInBounds_self_of_lt (by simp; omega)]
    · rw [Array.getElem?_setIfInBounds_ne (by omega), Array.getElem?_setIfInBounds_ne (by omega), Array.getElem?_setIfInBounds_ne (by omega)]
      exact hc _ _ hu
theorem size_put3 (W : World) (p : Addr) (x : It) : (put3 W p x).heap.size = W.heap.size := by simp [put3, World.setCell]
theorem block_put3 (W : World) {p : Addr} (x : It) {k : Nat} (h : k ≠ p.block) : (put3 W p x).heap[k]? = W.heap[k]? := by
  unfold put3
  exact (Below.heap_setCell _ ⟨p.block, p.off + 2, none⟩ _ k h).trans ((Below.heap_setCell _ ⟨p.block, p.off + 1, none⟩ _ k h).trans (Below.heap_setCell _ p _ k h))
/-- The row at ad turns into s; nothing else that was there turns. -/
structure Tr (ad : Addr) (s : List It) (W W' : World) : Prop where
  row : Row3 W' ad s
  os : W'.os = W.os
  tape : W'.tape = W.tape
  output : W'.output = W.output
  size : W.heap.size ≤ W'.heap.size
  block : ∀ k, k < W.heap.size → k ≠ ad.block → W'.heap[k]? = W.heap[k]?
theorem Tr.refl (h : Row3 W ad s) : Tr ad s W W := ⟨h, rfl, rfl, rfl, Nat.le_refl _, fun _ _ _ => rfl⟩
theorem Tr.next {W'' : World} (h : Tr ad s W W') (hb : Below W'.heap.size W' W'') : Tr ad s W W'' :=
  ⟨h.row.next hb, hb.os.trans h.os, hb.tape.trans h.tape, hb.output.trans h.output, Nat.le_trans h.size hb.size, fun k hk hn => (hb.block k (Nat.lt_of_lt_of_le hk h.size)).trans (h.block k hk hn)⟩
theorem Tr.trans {W'' : World} {t : List It} (h : Tr ad s W W') (h' : Tr ad t W' W'') : Tr ad t W W'' :=
  ⟨h'.row, h'.os.trans h.os, h'.tape.trans h.tape, h'.output.trans h.output, Nat.le_trans h.size h'.size, fun k hk hn => (h'.block k (Nat.lt_of_lt_of_le hk h.size) hn).trans (h.block k hk hn)⟩
theorem Tr.drew (h : Tr ad s W W') : Tr ad s W W'.drew := ⟨h.row.drew, h.os, h.tape, h.output, h.size, h.block⟩
theorem Tr.put (h : Tr ad s W W') {j : Nat} (hj : j < s.length) {x : It} (hx : x.Fit) : Tr ad (s.set j x) W (put3 W' (ad.add (j * 3)) x) :=
  ⟨h.row.put hj hx, h.os, h.tape, h.output, by rw [size_put3]; exact h.size, fun k hk hn => (block_put3 _ _ (by rw [blk_add h.row.el]; exact hn)).trans (h.block k hk hn)⟩
/-- Two items change places. -/
theorem Tr.swap (h : Tr ad s W W') {i j : Nat} (hi : i < s.length) (hj : j < s.length) : Tr ad (swp s i j) W (put3 (put3 W' (ad.add (i * 3)) (nth s j)) (ad.add (j * 3)) (nth s i)) :=
  (h.put hi (h.row.ft hj)).put (by simpa using hj) (h.row.ft hi)
theorem Tr.below (h : Tr ad s W W') {B : Nat} (hg : B ≤ ad.block) (hB : B ≤ W.heap.size) : Below B W W' := ⟨h.os, h.tape, h.output, h.size, fun k hk => h.block k (by omega) (by omega)⟩
theorem melt_put3 {W : World} {p q : Addr} {x : It} (h : W.frozen? q = false) : (put3 W p x).frozen? q = false := by
  have one : ∀ (W : World) (p : Addr) (v : Value), (W.setCell p v).frozen? q = W.frozen? q := by
    intro W p v
    unfold World.frozen? World.setCell
    simp only [Array.getElem?_modify]
    by_cases e : p.block = q.block
    · rw [if_pos e]
      cases W.heap[q.block]? with
      | none => rfl
      | some o => cases o <;> rfl
    · rw [if_neg e]
  unfold put3
  rw [one, one, one]; exact h
end
theorem cell_set_ne (W : World) (b o o' : Nat) (v : Value) (h : o ≠ o') : (W.setCell ⟨b, o, none⟩ v).cell? ⟨b, o', none⟩ = W.cell? ⟨b, o', none⟩ := by
  unfold World.cell? World.setCell
  simp only [Array.getElem?_modify, if_true]
  cases W.heap[b]? with
  | none => rfl
  | some x =>
    cases x with
    | cells c e f => simp [h]
    | _ => rfl
/-- What the stores of two items ask of the cells. -/
theorem Row3.stores {W : World} {ad : Addr} {s : List It} (h : Row3 W ad s) {i j : Nat} (hi : i < s.length) (hj : j < s.length) (hij : i ≠ j) (x y : It) :
    (W.setCell (ad.add (i * 3)) (.string y.k)).cell? ⟨(ad.add (i * 3)).block, (ad.add (i * 3)).off + 1, none⟩ = some (.int .u64 ((nth s i).u : Int)) ∧
    ((W.setCell (ad.add (i * 3)) (.string y.k)).setCell ⟨(ad.add (i * 3)).block, (ad.add (i * 3)).off + 1, none⟩ (.int .u64 (y.u : Int))).cell? ⟨(ad.add (i * 3)).block, (ad.add (i * 3)).off + 2, none⟩ = some (.int .u64 ((nth s i).w : Int)) ∧
    (((W.setCell (ad.add (i * 3)) (.string y.k)).setCell ⟨(ad.add (i * 3)).block, (ad.add (i * 3)).off + 1, none⟩ (.int .u64 (y.u : Int))).setCell ⟨(ad.add (i * 3)).block, (ad.add (i * 3)).off + 2, none⟩ (.int .u64 (y.w : Int))).cell? (ad.add (j * 3)) = some (.string (nth s j).k) ∧
    ((((W.setCell (ad.add (i * 3)) (.string y.k)).setCell ⟨(ad.add (i * 3)).block, (ad.add (i * 3)).off + 1, none⟩ (.int .u64 (y.u : Int))).setCell ⟨(ad.add (i * 3)).block, (ad.add (i * 3)).off + 2, none⟩ (.int .u64 (y.w : Int))).setCell (ad.add (j * 3)) (.string x.k)).cell? ⟨(ad.add (j * 3)).block, (ad.add (j * 3)).off + 1, none⟩ = some (.int .u64 ((nth s j).u : Int)) ∧
    (((((W.setCell (ad.add (i * 3)) (.string y.k)).setCell ⟨(ad.add (i * 3)).block, (ad.add (i * 3)).off + 1, none⟩ (.int .u64 (y.u : Int))).setCell ⟨(ad.add (i * 3)).block, (ad.add (i * 3)).off + 2, none⟩ (.int .u64 (y.w : Int))).setCell (ad.add (j * 3)) (.string x.k)).setCell ⟨(ad.add (j * 3)).block, (ad.add (j * 3)).off + 1, none⟩ (.int .u64 (x.u : Int))).cell? ⟨(ad.add (j * 3)).block, (ad.add (j * 3)).off + 2, none⟩ = some (.int .u64 ((nth s j).w : Int)) := by
  obtain ⟨a0, a1, a2⟩ := h.cell hi
  obtain ⟨b0, b1, b2⟩ := h.cell hj
  rw [add_at h.el] at *
  rw [add_at h.el] at *
  dsimp only at *
  refine ⟨?_, ?_, ?_, ?_, ?_⟩
  · rw [cell_set_ne _ _ _ _ _ (by omega)]; exact a1
  · rw [cell_set_ne _ _ _ _ _ (by omega), cell_set_ne _ _ _ _ _ (by omega)]; exact a2
  · rw [cell_set_ne _ _ _ _ _ (by omega), cell_set_ne _ _ _ _ _ (by omega), cell_set_ne _ _ _ _ _ (by omega)]; exact b0
  · rw [cell_set_ne _ _ _ _ _ (by omega), cell_set_ne _ _ _ _ _ (by omega), cell_set_ne _ _ _ _ _ (by omega), cell_set_ne _ _ _ _ _ (by omega)]; exact b1
  · rw [cell_set_ne _ _ _ _ _ (by omega), cell_set_ne _ _ _ _ _ (by omega), cell_set_ne _ _ _ _ _ (by omega), cell_set_ne _ _ _ _ _ (by omega), cell_set_ne _ _ _ _ _ (by omega)]; exact b2
theorem Row3.melts {W : World} {ad : Addr} {s : List It} (h : Row3 W ad s) (k : Nat) : W.frozen? (ad.add k) = false ∧ W.frozen? ⟨(ad.add k).block, (ad.add k).off + 1, none⟩ = false ∧ W.frozen? ⟨(ad.add k).block, (ad.add k).off + 2, none⟩ = false :=
  ⟨h.melt _ (blk_add h.el k), h.melt _ (blk_add h.el k), h.melt _ (blk_add h.el k)⟩
end Go.Proofs.Ytnkhgkpijfohkaa
namespace Go.Proofs.Ytnkhgkpijfohkaa
open Go.RowKit
set_option linter.unusedVariables false
set_option linter.unusedSimpArgs false
set_option maxHeartbeats 2000000
set_option maxRecDepth 100000
/-- i of both stretches have changed places. -/
def SwR (X U Y V Z : List It) (i : Nat) : List It := X ++ (V.take i ++ (U.drop i ++ (Y ++ (U.take i ++ (V.drop i ++ Z)))))
section
variable {X U Y V Z : List It}
theorem SwR.start : SwR X U Y V Z 0 = X ++ (U ++ (Y ++ (V ++ Z))) := by simp [SwR]
theorem SwR.fin {n : Nat} (hu : U.length = n) (hv : V.length = n) : SwR X U Y V Z n = X ++ (V ++ (Y ++ (U ++ Z))) := by
  unfold SwR
  rw [List.take_of_length_le (by omega), List.take_of_length_le (by omega), List.drop_eq_nil_of_le (by omega), List.drop_eq_nil_of_le (by omega)]
  simp
theorem SwR.len {n i : Nat} (hu : U.length = n) (hv : V.length = n) (hi : i ≤ n) : (SwR X U Y V Z i).length = X.length + n + Y.length + n + Z.length := by
  simp only [SwR, List.length_append, List.length_take, List.length_drop]; omega
theorem SwR.step {n i a b : Nat} (hu : U.length = n) (hv : V.length = n) (hi : i < n) (ha : X.length = a) (hb : X.length + n + Y.length = b) : swp (SwR X U Y V Z i) (a + i) (b + i) = SwR X U Y V Z (i + 1) := by
  have e1 : U.drop i = U[i] :: U.drop (i + 1) := List.drop_eq_getElem_cons (by omega)
  have e2 : V.drop i = V[i] :: V.drop (i + 1) := List.drop_eq_getElem_cons (by omega)
  have e3 : U.take (i + 1) = U.take i ++ [U[i]] := List.take_succ_eq_append_getElem (by omega)
  have e4 : V.take (i + 1) = V.take i ++ [V[i]] := List.take_succ_eq_append_getElem (by omega)
  have e := swp_app (X ++ V.take i) (U.drop (i + 1) ++ (Y ++ U.take i)) (V.drop (i + 1) ++ Z) U[i] V[i] (i := a + i) (j := b + i) (by simp only [List.length_append, List.length_take]; omega) (by simp only [List.length_append, List.length_take, List.length_drop]; omega)
  unfold SwR
  rw [e1, e2, e3, e4]
  simpa only [List.append_assoc, List.cons_append, List.nil_append] using e
end
end Go.Proofs.Ytnkhgkpijfohkaa
namespace Go.Proofs.Ytnkhgkpijfohkaa
open Go.RowKit
set_option linter.unusedVariables false
set_option linter.unusedSimpArgs false
set_option maxHeartbeats 2000000
set_option maxRecDepth 100000
/-- What is left to be turned. -/
def Rot (tgt : List It) (m i j : Nat) (cur : List It) : Prop := ∃ x u v y, cur = x ++ (u ++ (v ++ y)) ∧ x.length + i = m ∧ u.length = i ∧ v.length = j ∧ x ++ (v ++ (u ++ y)) = tgt
theorem Row3.nof {W : World} {ad : Addr} {s : List It} (h : Row3 W ad s) (t : List It) (e : s = t) : Row3 W ad t := e ▸ h
end Go.Proofs.Ytnkhgkpijfohkaa
namespace Go.Proofs.Ytnkhgkpijfohkaa.Wd

/-- The upper word. -/
@[irreducible] def hi (n : Nat) : Int := ((n / 18446744073709551616 : Nat) : Int)
/-- The lower word. -/
@[irreducible] def lo (n : Nat) : Int := ((n % 18446744073709551616 : Nat) : Int)
/-- A word. -/
@[irreducible] def Word (x : Int) : Prop := 0 ≤ x ∧ x < 18446744073709551616
theorem Word.mk {x : Int} (h : 0 ≤ x) (k : x < 18446744073709551616) : Word x := by unfold Word; exact ⟨h, k⟩
theorem Word.nn {x : Int} (h : Word x) : 0 ≤ x := by unfold Word at h; exact h.1
theorem Word.lt {x : Int} (h : Word x) : x < 18446744073709551616 := by unfold Word at h; exact h.2
/-- Below 2 to the 128. -/
@[irreducible] def Fits (n : Nat) : Prop := n < 340282366920938463463374607431768211456

theorem hi_nonneg (n : Nat) : 0 ≤ hi n := by unfold hi; omega
theorem lo_nonneg (n : Nat) : 0 ≤ lo n := by unfold lo; omega
theorem lo_lt (n : Nat) : lo n < 18446744073709551616 := by unfold lo; omega
theorem hi_lt {n : Nat} (h : Fits n) : hi n < 18446744073709551616 := by unfold hi Fits at *; omega
theorem word_lo (n : Nat) : Word (lo n) := .mk (lo_nonneg n) (lo_lt n)
theorem word_hi {n : Nat} (h : Fits n) : Word (hi n) := .mk (hi_nonneg n) (hi_lt h)
theorem word_nat {n : Nat} (h : n < 18446744073709551616) : Word n := .mk (by omega) (by omega)
theorem hi_zero : hi 0 = 0 := by unfold hi; rfl
theorem lo_zero : lo 0 = 0 := by unfold lo; rfl
theorem hi_small {n : Nat} (h : n < 18446744073709551616) : hi n = 0 := by unfold hi; omega
theorem lo_small {n : Nat} (h : n < 18446744073709551616) : lo n = n := by unfold lo; omega
theorem eq_of_words {a b : Nat} (h : hi a = hi b) (k : lo a = lo b) : a = b := by unfold hi lo at *; omega
theorem words_of (h l : Int) (h0 : 0 ≤ h) (h1 : h < 18446744073709551616) (l0 : 0 ≤ l) (l1 : l < 18446744073709551616) : ∃ n, Fits n ∧ h = hi n ∧ l = lo n :=
  ⟨(h * 18446744073709551616 + l).toNat, by unfold Fits; omega, by unfold hi; omega, by unfold lo; omega⟩

theorem add_lo (a b : Nat) : (lo a + lo b) % 18446744073709551616 = lo (a + b) := by unfold lo; omega
theorem add_hi (a b : Nat) (h : Fits (a + b)) : (hi a + hi b + (lo a + lo b) / 18446744073709551616) % 18446744073709551616 = hi (a + b) := by unfold hi lo Fits at *; omega
theorem add_no (a b : Nat) (h : Fits (a + b)) : (hi a + hi b + (lo a + lo b) / 18446744073709551616) / 18446744073709551616 = 0 := by unfold hi lo Fits at *; omega
theorem add_yes (a b : Nat) (ha : Fits a) (hb : Fits b) (h : ¬ Fits (a + b)) : (hi a + hi b + (lo a + lo b) / 18446744073709551616) / 18446744073709551616 = 1 := by unfold hi lo Fits at *; omega

/-- -1, 0 or 1. -/
@[irreducible] def sgn (a b : Nat) : Int := if a < b then -1 else if b < a then 1 else 0
/-- The borrow. -/
@[irreducible] def bor (x y : Int) : Int := if x < y then 1 else 0
theorem bor_lo (x y : Int) : 0 ≤ bor x y := by unfold bor; split <;> decide
theorem bor_hi (x y : Int) : bor x y ≤ 1 := by unfold bor; split <;> decide
theorem sub_lo (a b : Nat) (h : b ≤ a) : (lo a - lo b) % 18446744073709551616 = lo (a - b) := by unfold lo; omega
theorem sub_hi (a b : Nat) (ha : Fits a) (h : b ≤ a) : (hi a - hi b - bor (lo a) (lo b)) % 18446744073709551616 = hi (a - b) := by unfold bor hi lo Fits at *; split <;> omega
theorem sub_no (a b : Nat) (h : b ≤ a) : bor (hi a) (hi b + bor (lo a) (lo b)) = 0 := by unfold bor hi lo at *; (repeat' split) <;> omega
theorem sub_yes (a b : Nat) (h : ¬ b ≤ a) : bor (hi a) (hi b + bor (lo a) (lo b)) = 1 := by unfold bor hi lo at *; (repeat' split) <;> omega
/-- The same of two words. -/
@[irreducible] def cmpI (x y : Int) : Int := if x < y then -1 else if y < x then 1 else 0
theorem cmpI_lt {x y : Int} (h : x < y) : cmpI x y = -1 := by unfold cmpI; rw [if_pos h]
theorem cmpI_gt {x y : Int} (h : y < x) : cmpI x y = 1 := by unfold cmpI; rw [if_neg (by omega), if_pos h]
theorem cmpI_eq {x y : Int} (h : ¬ x < y) (k : ¬ y < x) : cmpI x y = 0 := by unfold cmpI; rw [if_neg h, if_neg k]
theorem sgn_eq_hi (a b : Nat) (h : hi a = hi b) : cmpI (lo a) (lo b) = sgn a b := by unfold cmpI sgn hi lo at *; (repeat' split) <;> omega
theorem sgn_ne_hi (a b : Nat) (h : hi a ≠ hi b) : cmpI (hi a) (hi b) = sgn a b := by unfold cmpI sgn hi at *; (repeat' split) <;> omega

theorem toNat_hi (n : Nat) : (hi n).toNat = n / 18446744073709551616 := by unfold hi; omega
theorem toNat_lo (n : Nat) : (lo n).toNat = n % 18446744073709551616 := by unfold lo; omega
theorem split_mul (x1 x0 y1 y0 K : Nat) : (x1 * K + x0) * (y1 * K + y0) = x1 * y1 * (K * K) + (x1 * y0 + x0 * y1) * K + x0 * y0 := by
  rw [Nat.add_mul, Nat.mul_add, Nat.mul_add, Nat.mul_mul_mul_comm, Nat.mul_right_comm x1 K y0, ← Nat.mul_assoc x0 y1 K, Nat.add_mul]
  omega
/-- A product by its words. -/
theorem mul_words (a b : Nat) : a * b = (hi a).toNat * (hi b).toNat * 340282366920938463463374607431768211456 + ((hi a).toNat * (lo b).toNat + (lo a).toNat * (hi b).toNat) * 18446744073709551616 + (lo a).toNat * (lo b).toNat := by
  rw [toNat_hi, toNat_hi, toNat_lo, toNat_lo]
  have h := split_mul (a / 18446744073709551616) (a % 18446744073709551616) (b / 18446744073709551616) (b % 18446744073709551616) 18446744073709551616
  rw [Nat.div_add_mod' a 18446744073709551616, Nat.div_add_mod' b 18446744073709551616] at h
  exact h
theorem mul_both (a b : Nat) (h : hi a ≠ 0) (k : hi b ≠ 0) : ¬ Fits (a * b) := by
  have e := mul_words a b
  have : 1 ≤ (hi a).toNat * (hi b).toNat := by
    have h1 : 1 ≤ (hi a).toNat := by have := hi_nonneg a; omega
    have h2 : 1 ≤ (hi b).toNat := by have := hi_nonneg b; omega
    exact Nat.mul_le_mul h1 h2
  unfold Fits; omega
theorem hi_ne {x : Nat} (h : hi x ≠ 0) : 18446744073709551616 ≤ x := by unfold hi at h; omega
theorem mul_left (a b : Nat) (h : hi ((hi a).toNat * (lo b).toNat) ≠ 0) : ¬ Fits (a * b) := by
  have e := mul_words a b
  have : 18446744073709551616 ≤ (hi a).toNat * (lo b).toNat := hi_ne h
  unfold Fits; omega
theorem mul_right (a b : Nat) (h : hi ((lo a).toNat * (hi b).toNat) ≠ 0) : ¬ Fits (a * b) := by
  have e := mul_words a b
  have : 18446744073709551616 ≤ (lo a).toNat * (hi b).toNat := hi_ne h
  unfold Fits; omega
/-- What is added to the product of the lower words. -/
@[irreducible] def upper (a b : Nat) : Nat := ((hi a).toNat * (lo b).toNat + (lo a).toNat * (hi b).toNat) * 18446744073709551616
theorem lo_upper (a b : Nat) : lo (upper a b) = 0 := by unfold lo upper; omega
theorem zero_mul_or (a b : Nat) (h : ¬ (hi a ≠ 0 ∧ hi b ≠ 0)) : (hi a).toNat * (lo b).toNat = 0 ∨ (lo a).toNat * (hi b).toNat = 0 := by
  by_cases k : hi a = 0
  · left; rw [k]; simp
  · right; have : hi b = 0 := by omega
    rw [this]; simp
theorem hi_upper (a b : Nat) (h : ¬ (hi a ≠ 0 ∧ hi b ≠ 0)) (l : hi ((hi a).toNat * (lo b).toNat) = 0) (r : hi ((lo a).toNat * (hi b).toNat) = 0) :
    (lo ((hi a).toNat * (lo b).toNat) + lo ((lo a).toNat * (hi b).toNat)) % 18446744073709551616 = hi (upper a b) := by
  have := zero_mul_or a b h
  unfold upper
  generalize (hi a).toNat * (lo b).toNat = x at *
  generalize (lo a).toNat * (hi b).toNat = y at *
  unfold hi lo at *
  omega
theorem fits_upper (a b : Nat) (h : ¬ (hi a ≠ 0 ∧ hi b ≠ 0)) (l : hi ((hi a).toNat * (lo b).toNat) = 0) (r : hi ((lo a).toNat * (hi b).toNat) = 0) : Fits (upper a b) := by
  have := zero_mul_or a b h
  unfold upper
  generalize (hi a).toNat * (lo b).toNat = x at *
  generalize (lo a).toNat * (hi b).toNat = y at *
  unfold hi Fits at *
  omega
theorem mul_sum (a b : Nat) (h : ¬ (hi a ≠ 0 ∧ hi b ≠ 0)) : (lo a).toNat * (lo b).toNat + upper a b = a * b := by
  have e := mul_words a b
  have : (hi a).toNat * (hi b).toNat = 0 := by
    by_cases k : hi a = 0
    · rw [k]; simp
    · have : hi b = 0 := by omega
      rw [this]; simp
  unfold upper; omega
theorem fits_lows (a b : Nat) : Fits ((lo a).toNat * (lo b).toNat) := by
  have h1 : (lo a).toNat ≤ 18446744073709551615 := by have := lo_lt a; have := lo_nonneg a; omega
  have h2 : (lo b).toNat ≤ 18446744073709551615 := by have := lo_lt b; have := lo_nonneg b; omega
  have := Nat.mul_le_mul h1 h2
  unfold Fits; omega

/-- Whether a number fits. -/
@[irreducible] def fitsB (n : Nat) : Bool := decide (n < 340282366920938463463374607431768211456)
/-- The number, or 0. -/
@[irreducible] def cut (n : Nat) : Nat := if n < 340282366920938463463374607431768211456 then n else 0
theorem fitsB_yes {n : Nat} (h : Fits n) : fitsB n = true := by unfold fitsB; unfold Fits at h; simpa using h
theorem fitsB_no {n : Nat} (h : ¬ Fits n) : fitsB n = false := by unfold fitsB; unfold Fits at h; simpa using h
theorem cut_yes {n : Nat} (h : Fits n) : cut n = n := by unfold cut; unfold Fits at h; rw [if_pos h]
theorem cut_no {n : Nat} (h : ¬ Fits n) : cut n = 0 := by unfold cut; unfold Fits at h; rw [if_neg h]
theorem fits_cut (n : Nat) : Fits (cut n) := by
  by_cases h : Fits n
  · rw [cut_yes h]; exact h
  · rw [cut_no h]; unfold Fits; decide
end Go.Proofs.Ytnkhgkpijfohkaa.Wd
namespace Go.Proofs.Ytnkhgkpijfohkaa.Wd
open Go.RowKit

/-- A number of 128 bits as a value. -/
abbrev U (n : Nat) : Value := .agg #[.int .u64 (hi n), .int .u64 (lo n)]

/-- What is told of other spellings of the arguments. -/
theorem calls_at1 {P : Program} {f : FuncId} {x x' : Value} {w : World} {Q : Ending → World → Prop} (hx : x = x') (h : Calls P f #[x'] w Q) : Calls P f #[x] w Q := by rw [hx]; exact h
theorem calls_at2 {P : Program} {f : FuncId} {x y x' y' : Value} {w : World} {Q : Ending → World → Prop} (hx : x = x') (hy : y = y') (h : Calls P f #[x', y'] w Q) : Calls P f #[x, y] w Q := by rw [hx, hy]; exact h
theorem cell_lt {w : World} {p : Addr} {v : Value} (h : w.cell? p = some v) : p.block < w.heap.size := by
  apply Decidable.byContradiction
  intro k
  have e : w.heap[p.block]? = none := by simp; omega
  simp [World.cell?, e] at h
theorem keep_cell {W w1 : World} (hb : Below W.heap.size W w1) {p : Addr} {v : Value} (h : W.cell? p = some v) : w1.cell? p = some v := by
  rw [hb.cell (cell_lt h)]; exact h
theorem U_of {h l : Int} {n : Nat} (e1 : h = hi n) (e2 : l = lo n) : Value.agg #[.int .u64 h, .int .u64 l] = U n := by rw [e1, e2]
/-- What was there stays. -/
theorem keep_alloc {w : World} {p : Addr} {v : Value} (h : w.cell? p = some v) (o : Obj) : (w.alloc o).cell? p = some v := keep_cell ((Below.refl _ _).alloc (Nat.le_refl _) o) h

theorem keep_drew {w : World} {p : Addr} {v : Value} (h : w.cell? p = some v) : w.drew.cell? p = some v := h
theorem keep_frozen {W w1 : World} (hb : Below W.heap.size W w1) {p : Addr} (hp : p.block < W.heap.size) (h : W.frozen? p = false) : w1.frozen? p = false := by
  rw [hb.frozen hp]; exact h
theorem melt_alloc {w : World} {p : Addr} (h : w.frozen? p = false) (c : Array Value) (t : TypeId) : (w.alloc (.cells c t)).frozen? p = false := by
  rw [frozen?_alloc_cells]; exact h
theorem melt_drew {w : World} {p : Addr} (h : w.frozen? p = false) : w.drew.frozen? p = false := h

/-- wide.Full. -/
theorem full_any (x y : Int) (wx : Word x) (wy : Word y) (w : World) :
    Calls Try.prog 38 #[.int .u64 x, .int .u64 y] w fun e w' => e = .returned (U (x.toNat * y.toNat)) ∧ ∃ c, w' = w.alloc (.cells c 59) := by
  have hx := wx.nn; have hx' := wx.lt; have hy := wy.nn; have hy' := wy.lt
  clear wx wy
  obtain ⟨x, rfl⟩ := Int.eq_ofNat_of_zero_le hx
  obtain ⟨y, rfl⟩ := Int.eq_ofNat_of_zero_le hy
  rw [Int.toNat_natCast, Int.toNat_natCast]
  have e1 : ((x * y / 18446744073709551616 : Nat) : Int) = hi (x * y) := by unfold hi; rfl
  have e2 : ((x * y % 18446744073709551616 : Nat) : Int) = lo (x * y) := by unfold lo; rfl
  have H1 := Lib.hid e1
  have H2 := Lib.hid e2
  have kx : x < 18446744073709551616 := by omega
  have ky : y < 18446744073709551616 := by omega
  clear e1 e2 hx hx' hy hy'
  go_enter Try.func38, Try.ntmps38
  go_wp2_with (go_at_call 43; refine (Try.bits_Mul64 x y kx ky _).mono ?_; rintro e w' ⟨rfl, rfl⟩; rw [H1.out, H2.out])
  exact bodyPost_ret (v := U (x * y)) (by simp [results, Try.results38, go_sem]) rfl ⟨rfl, _, rfl⟩

theorem full_bel (x y : Int) (wx : Word x) (wy : Word y) (w : World) :
    Calls Try.prog 38 #[.int .u64 x, .int .u64 y] w fun e w' => e = .returned (U (x.toNat * y.toNat)) ∧ Below w.heap.size w w' :=
  (full_any x y wx wy w).mono fun _ _ ⟨he, _, hw⟩ => ⟨he, by subst hw; exact (Below.refl _ _).alloc (Nat.le_refl _) _⟩
theorem three_bel (w : World) (c1 c2 c3 : Array Value) : Below w.heap.size w (((w.alloc (.cells c1 59)).alloc (.cells c2 59)).alloc (.cells c3 59)) :=
  (((Below.refl _ _).alloc (Nat.le_refl _) _).alloc (by simp) _).alloc (by simp only [World.size_alloc]; omega) _
theorem two_bel (w : World) (c1 c2 : Array Value) : Below w.heap.size w ((w.alloc (.cells c1 59)).alloc (.cells c2 59)) :=
  ((Below.refl _ _).alloc (Nat.le_refl _) _).alloc (by simp) _
/-- A cell that may be written stays so. -/
theorem keep_melt {W w1 : World} {p : Addr} {v : Value} (hb : Below W.heap.size W w1) (hc : W.cell? p = some v) (h : W.frozen? p = false) : w1.frozen? p = false := keep_frozen hb (cell_lt hc) h

theorem keep_set {w : World} {p a : Addr} {v : Value} (h : w.cell? p = some v) (u : Value) (hne : p.block ≠ a.block) : (w.setCell a u).cell? p = some v := by
  rw [World.cell?_of_block (w := w) (Below.heap_setCell w a u p.block hne)]; exact h

/-- wide.compare. -/
theorem compare_any (x y : Int) (w : World) : Calls Try.prog 42 #[.int .u64 x, .int .u64 y] w fun e w' => e = .returned (.int .i64 (cmpI x y)) ∧ w = w' := by
  by_cases h1 : x < y
  · have e := Lib.hid (cmpI_lt h1)
    go_enter Try.func42, Try.ntmps42
    go_wp2
    go_ret
    exact ⟨by rw [e.out]; rfl, rfl⟩
  · by_cases h2 : y < x
    · have e := Lib.hid (cmpI_gt h2)
      go_enter Try.func42, Try.ntmps42
      go_wp2
      go_ret
      exact ⟨by rw [e.out]; rfl, rfl⟩
    · have e := Lib.hid (cmpI_eq h1 h2)
      go_enter Try.func42, Try.ntmps42
      go_wp2
      go_ret
      exact ⟨by rw [e.out]; rfl, rfl⟩

/-- wide.Cmp. -/
theorem cmp_any (a b : Nat) (w : World) : Calls Try.prog 37 #[U a, U b] w fun e w' => e = .returned (.int .i64 (sgn a b)) ∧ ∃ c1 c2, w' = (w.alloc (.cells c1 59)).alloc (.cells c2 59) := by
  by_cases h : hi a = hi b
  · have hs := Lib.hid (sgn_eq_hi a b h)
    have hb : (hi a == hi b) = true := by simpa using h
    have hb' : (hi a != hi b) = false := by simpa using h
    clear h
    go_enter Try.func37, Try.ntmps37
    go_wp2_with (go_at_call 42; refine (compare_any _ _ _).mono ?_; rintro e w' ⟨rfl, rfl⟩; rw [hs.out])
    go_ret
    exact ⟨rfl, _, _, rfl⟩
  · have hs := Lib.hid (sgn_ne_hi a b h)
    have hb : (hi a == hi b) = false := by simpa using h
    have hb' : (hi a != hi b) = true := by simpa using h
    clear h
    go_enter Try.func37, Try.ntmps37
    go_wp2_with (go_at_call 42; refine (compare_any _ _ _).mono ?_; rintro e w' ⟨rfl, rfl⟩; rw [hs.out])
    go_ret
    exact ⟨rfl, _, _, rfl⟩

end Go.Proofs.Ytnkhgkpijfohkaa.Wd
namespace Go.Proofs.Ytnkhgkpijfohkaa.Wd
open Go.RowKit
set_option linter.unusedSimpArgs false
set_option linter.unusedVariables false

def MulRel (a b : Nat) (w : World) (s6 s7 : Value) (wx : World) : Prop := ∃ g6 g7 : Nat, s6 = .pointer (some ⟨g6, 0, none⟩) ∧ s7 = .pointer (some ⟨g7, 0, none⟩) ∧
    wx.cell? ⟨g6, 0, none⟩ = some (.int .u64 (hi ((hi a).toNat * (lo b).toNat))) ∧ wx.cell? ⟨g6, 1, none⟩ = some (.int .u64 (lo ((hi a).toNat * (lo b).toNat))) ∧
    wx.cell? ⟨g7, 0, none⟩ = some (.int .u64 (hi ((lo a).toNat * (hi b).toNat))) ∧ wx.cell? ⟨g7, 1, none⟩ = some (.int .u64 (lo ((lo a).toNat * (hi b).toNat))) ∧
    w.heap.size + 3 ≤ wx.heap.size ∧ w.heap.size + 3 ≤ g6 ∧ w.heap.size + 3 ≤ g7 ∧
    Below (w.heap.size + 3) (((w.alloc (.cells #[.int .u64 (hi a), .int .u64 (lo a)] 59)).alloc (.cells #[.int .u64 (hi b), .int .u64 (lo b)] 59)).alloc (.cells #[.int .u64 0, .int .u64 0] 59)) wx

def MulEnd (a b : Nat) (w : World) (e : Ending) (w' : World) : Prop := e = .returned (.tuple #[U (cut (a * b)), .bool (fitsB (a * b))]) ∧ Below w.heap.size w w'

end Go.Proofs.Ytnkhgkpijfohkaa.Wd
