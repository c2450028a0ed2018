/- Blocks that a call has made, and writes into. -/
import Derived.Test.YthhphbaimpcjfaaDA
namespace Go.Proofs.Ythhphbaimpcjfaa
open Go.RowKit
theorem below_al {w a : World} (h : Below w.heap.size w a) (o : Obj) : Below w.heap.size w (a.alloc o) := h.alloc h.size o

/-- Block g is just these cells, and may be written. -/
def Box (w : World) (g : Nat) (cs : Array Value) : Prop := ∃ t, w.heap[g]? = some (.cells cs t (0, 0))
section
variable {w w' : World} {g : Nat} {cs : Array Value}
theorem Box.lt (h : Box w g cs) : g < w.heap.size := by obtain ⟨_, h⟩ := h; exact (Array.getElem?_eq_some_iff.1 h).1
theorem Box.cell (h : Box w g cs) {i : Nat} {v : Value} (hi : cs[i]? = some v) : w.cell? ⟨g, i, none⟩ = some v := by
  obtain ⟨_, h⟩ := h
  simp [World.cell?, h, hi]
theorem Box.melt (h : Box w g cs) (i : Nat) : w.frozen? ⟨g, i, none⟩ = false := by
  obtain ⟨_, h⟩ := h
  simp [World.frozen?, h]
theorem Box.drew (h : Box w g cs) : Box w.drew g cs := h
theorem Box.next (h : Box w g cs) (hb : Below w.heap.size w w') : Box w' g cs := by
  have l := h.lt
  obtain ⟨t, h⟩ := h
  exact ⟨t, (hb.block g l).trans h⟩
theorem Box.alloc (h : Box w g cs) (o : Obj) : Box (w.alloc o) g cs := h.next ((Below.refl _ _).alloc (Nat.le_refl _) o)
theorem Box.far (h : Box w g cs) {p : Addr} (hp : g ≠ p.block) (u : Value) : Box (w.setCell p u) g cs := by
  obtain ⟨t, h⟩ := h
  exact ⟨t, (Below.heap_setCell w p u g hp).trans h⟩
theorem Box.set (h : Box w g cs) (i : Nat) (u : Value) : Box (w.setCell ⟨g, i, none⟩ u) g (cs.setIfInBounds i u) := by
  obtain ⟨t, h⟩ := h
  exact ⟨t, by simp [World.setCell, Array.getElem?_modify, h]⟩
theorem Box.new (w : World) (cs : Array Value) (t : TypeId) : Box (w.alloc (.cells cs t)) w.heap.size cs := ⟨t, heap_alloc_new w _⟩
end
theorem below_set {B : Nat} {w W : World} (h : Below B w W) {p : Addr} (hp : B ≤ p.block) (u : Value) : Below B w (W.setCell p u) :=
  ⟨h.os, h.tape, h.output, by rw [show (W.setCell p u).heap.size = W.heap.size by simp [World.setCell]]; exact h.size, fun k hk => (Below.heap_setCell W p u k (by omega)).trans (h.block k hk)⟩

/-- Two blocks of the call's own; below them nothing has turned. -/
structure Two (w : World) (g r : Nat) (cs ds : Array Value) (W : World) : Prop where
  bg : Box W g cs
  br : Box W r ds
  ne : g ≠ r
  hg : w.heap.size ≤ g
  hr : w.heap.size ≤ r
  bl : Below w.heap.size w W
section
variable {w W W' : World} {g r : Nat} {cs ds : Array Value}
theorem Two.drew (h : Two w g r cs ds W) : Two w g r cs ds W.drew := ⟨h.bg, h.br, h.ne, h.hg, h.hr, h.bl.drew⟩
theorem Two.next (h : Two w g r cs ds W) (hb : Below W.heap.size W W') : Two w g r cs ds W' := ⟨h.bg.next hb, h.br.next hb, h.ne, h.hg, h.hr, below_step h.bl hb⟩
theorem Two.set (h : Two w g r cs ds W) (i : Nat) (u : Value) : Two w g r (cs.setIfInBounds i u) ds (W.setCell ⟨g, i, none⟩ u) :=
  ⟨h.bg.set i u, h.br.far (Ne.symm h.ne) u, h.ne, h.hg, h.hr, below_set h.bl h.hg u⟩
theorem Two.new (w : World) (cs ds : Array Value) (t t' : TypeId) : Two w w.heap.size (w.heap.size + 1) cs ds ((w.alloc (.cells cs t)).alloc (.cells ds t')) :=
  ⟨(Box.new w cs t).alloc _, by simpa using Box.new (w.alloc (.cells cs t)) ds t', by omega, Nat.le_refl _, by omega, below_al ((Below.refl _ _).alloc (Nat.le_refl _) _) _⟩
end
theorem Two.swap {w W : World} {g r : Nat} {cs ds : Array Value} (h : Two w g r cs ds W) : Two w r g ds cs W := ⟨h.br, h.bg, Ne.symm h.ne, h.hr, h.hg, h.bl⟩
theorem Two.put4 {w W : World} {g r : Nat} {cs : Array Value} {z0 z1 z2 z3 : Value} (h : Two w g r cs #[z0, z1, z2, z3] W) (a b c d : Value) :
    Two w g r cs #[a, b, c, d] ((((W.setCell ⟨r, 0, none⟩ a).setCell ⟨r, 1, none⟩ b).setCell ⟨r, 2, none⟩ c).setCell ⟨r, 3, none⟩ d) :=
  ((((h.swap.set 0 a).set 1 b).set 2 c).set 3 d).swap
/-- One block of the call's own. -/
structure One (w : World) (g : Nat) (cs : Array Value) (W : World) : Prop where
  bg : Box W g cs
  hg : w.heap.size ≤ g
  bl : Below w.heap.size w W
section
variable {w W W' : World} {g : Nat} {cs : Array Value}
theorem One.drew (h : One w g cs W) : One w g cs W.drew := ⟨h.bg, h.hg, h.bl.drew⟩
theorem One.next (h : One w g cs W) (hb : Below W.heap.size W W') : One w g cs W' := ⟨h.bg.next hb, h.hg, below_step h.bl hb⟩
theorem One.set (h : One w g cs W) (i : Nat) (u : Value) : One w g (cs.setIfInBounds i u) (W.setCell ⟨g, i, none⟩ u) := ⟨h.bg.set i u, h.hg, below_set h.bl h.hg u⟩
theorem One.new (w : World) (cs : Array Value) (t : TypeId) : One w w.heap.size cs (w.alloc (.cells cs t)) := ⟨Box.new w cs t, Nat.le_refl _, (Below.refl _ _).alloc (Nat.le_refl _) _⟩
theorem One.put4 {z0 z1 z2 z3 : Value} (h : One w g #[z0, z1, z2, z3] W) (a b c d : Value) :
    One w g #[a, b, c, d] ((((W.setCell ⟨g, 0, none⟩ a).setCell ⟨g, 1, none⟩ b).setCell ⟨g, 2, none⟩ c).setCell ⟨g, 3, none⟩ d) :=
  (((h.set 0 a).set 1 b).set 2 c).set 3 d
end
theorem Box.two {w : World} {g : Nat} {a b : Value} (h : Box w g #[a, b]) : w.cell? ⟨g, 0, none⟩ = some a ∧ w.cell? ⟨g, 1, none⟩ = some b := ⟨h.cell rfl, h.cell rfl⟩
theorem One.two {w W : World} {g : Nat} {cs : Array Value} (h : One w g cs W) (ds : Array Value) (t : TypeId) : Two w g W.heap.size cs ds (W.alloc (.cells ds t)) :=
  ⟨h.bg.alloc _, Box.new _ _ _, by have := h.bg.lt; omega, h.hg, h.bl.size, below_al h.bl _⟩
theorem Two.put2 {w W : World} {g r : Nat} {cs : Array Value} {z0 z1 : Value} (h : Two w g r cs #[z0, z1] W) (a b : Value) :
    Two w g r cs #[a, b] ((W.setCell ⟨r, 0, none⟩ a).setCell ⟨r, 1, none⟩ b) :=
  ((h.swap.set 0 a).set 1 b).swap
/-- How many words are left. -/
@[irreducible] def left (p : Int) (n : Nat) : Int := if okB p n = true then (n : Int) - p else 0
set_option maxRecDepth 100000 in
theorem left_any (A : Option Addr) (n c : Nat) (p : Int) (hn : n ≤ 9223372036854775807) (w : World) : Calls Try.prog 16 #[wds A n c p] w fun e w' => e = .returned (.int .i64 (left p n)) ∧ Below w.heap.size w w' := by
  have KR := Lib.hid (fun W => dright_any A n c p hn W)
  by_cases h : 0 ≤ p ∧ p ≤ (n : Int)
  · have E := Lib.hid (okB_yes h)
    obtain ⟨h0, h1⟩ := h
    go_enter Try.func16, Try.ntmps16
    go_wp2_with fail
    refine (KR.out _).mono ?_
    rw [E.out]
    rintro e w1 ⟨rfl, B1⟩
    have M := (One.new w #[.slice A n c, .int .i64 p] 28).next B1
    obtain ⟨c0, c1⟩ := M.bg.two
    have BB := Lib.hid M.bl
    clear M B1
    go_wp2_with fail
    go_ret
    exact ⟨by unfold left; rw [if_pos E.out]; rfl, BB.out⟩
  · have E := Lib.hid (okB_no h)
    have F : Hid (left p n = 0) := by unfold Hid left; rw [if_neg (by rw [E.out]; decide)]
    clear h
    go_enter Try.func16, Try.ntmps16
    go_wp2_with fail
    refine (KR.out _).mono ?_
    rw [E.out]
    rintro e w1 ⟨rfl, B1⟩
    have M := (One.new w #[.slice A n c, .int .i64 p] 28).next B1
    have BB := Lib.hid M.bl
    clear M B1
    go_wp2_with fail
    go_ret
    exact ⟨by rw [F.out]; rfl, BB.out⟩
end Go.Proofs.Ythhphbaimpcjfaa
