/- Numbers of 64 bits as the program has them. Blocks that a call has made, and writes into. Texts as lists of bytes, their numbers, the hash in plain words. Words of 32 bits and bytes as the program has them. place of the program; At of the document. byPlaces of the program. More of the document. Plain arithmetic of limbs of 32 bits: no program in sight. Limbs in memory: what a slice of limbs reads as, and what stays. -/
import Derived.Laws.BitsAllLaws
import Derived.Laws.Bits64
import Derived.WalkKit
import Derived.Lib.Hide
import Derived.Test.YthbgbgobfoecoaaRows
import Derived.WalkSpells
import Derived.Handy
import Derived.Deep.Draws
import Derived.Deep.QuietTactic
import Derived.BigQuiet
import Derived.Deep.RegionHeld3
import Derived.Deep.LoopGhost
import Derived.Deep.Light
import Derived.Deep.CutBlock
import Derived.Deep.DeepCutAuto
import Derived.Deep.RegionWith
import Derived.StillTailTactics
import Derived.IntWalk
import Derived.Laws.Strings2
import Derived.Test.YthbgbgobfoecoaaJ00
namespace Go.Proofs.Ythbgbgobfoecoaa.Crc

/-- A word as the program has it. -/
@[irreducible] def I (x : BitVec 64) : Int := (x.toNat : Int)
theorem I_eq (x : BitVec 64) : I x = (x.toNat : Int) := by unfold I; rfl
theorem I_nn (x : BitVec 64) : 0 ≤ I x := by rw [I_eq]; omega
theorem I_lt (x : BitVec 64) : I x < 18446744073709551616 := by rw [I_eq]; have := x.isLt; omega
theorem I_inj {x y : BitVec 64} (h : I x = I y) : x = y := by
  rw [I_eq, I_eq] at h; apply BitVec.eq_of_toNat_eq; omega
theorem I_iff (x y : BitVec 64) : (I x = I y) ↔ x = y := ⟨I_inj, fun h => by rw [h]⟩
theorem I_of {n : Int} (h0 : 0 ≤ n) (h1 : n < 18446744073709551616) : ∃ x, n = I x := by
  refine ⟨BitVec.ofNat 64 n.toNat, ?_⟩
  rw [I_eq, BitVec.toNat_ofNat, Nat.mod_eq_of_lt (by omega)]; omega
theorem xor_I (x y : BitVec 64) : bits .xor .u64 (I x) (I y) = I (x ^^^ y) := by
  rw [I_eq, I_eq, I_eq, bits_xor_u64_nat _ _ (by have := x.isLt; omega) (by have := y.isLt; omega), BitVec.toNat_xor]
theorem or_I (x y : BitVec 64) : bits .or .u64 (I x) (I y) = I (x ||| y) := by
  rw [I_eq, I_eq, I_eq, u64_or_nat _ _ (by have := x.isLt; omega) (by have := y.isLt; omega), BitVec.toNat_or]
theorem add_I (x y : BitVec 64) : IntKind.u64.wrap (I x + I y) = I (x + y) := by
  rw [I_eq, I_eq, I_eq, IntKind.wrap_u64, BitVec.toNat_add]; omega
theorem add_I' (x y : BitVec 64) : (I x + I y) % 18446744073709551616 = I (x + y) := by
  rw [I_eq, I_eq, I_eq, BitVec.toNat_add]; omega
theorem shl_I (x : BitVec 64) (k : Nat) : IntKind.u64.wrap (I x * ((2 ^ k : Nat) : Int)) = I (x <<< k) := by
  rw [I_eq, I_eq, IntKind.wrap_u64, BitVec.toNat_shiftLeft, Nat.shiftLeft_eq]; omega
theorem shr_I (x : BitVec 64) (k : Nat) : I x / ((2 ^ k : Nat) : Int) = I (x >>> k) := by
  rw [I_eq, I_eq, BitVec.toNat_ushiftRight, Nat.shiftRight_eq_div_pow]; omega
/-- Turned to the left. -/
@[irreducible] def rl (x : BitVec 64) (k : Nat) : BitVec 64 := x <<< k ||| x >>> (64 - k)
theorem rl_of (x : BitVec 64) (k : Nat) (p q : Int) (hp : p = ((2 ^ k : Nat) : Int)) (hq : q = ((2 ^ (64 - k) : Nat) : Int)) : bits BinOp.or IntKind.u64 (IntKind.u64.wrap (I x * p)) (I x / q) = I (rl x k) := by
  subst hp hq
  rw [shl_I, shr_I, or_I]
  unfold rl; rfl

theorem kI (n : Nat) (h : n < 18446744073709551616) : ((n : Nat) : Int) = I (BitVec.ofNat 64 n) := by
  rw [I_eq, BitVec.toNat_ofNat, Nat.mod_eq_of_lt (by omega)]
theorem kI0 : (0 : Int) = I 0#64 := kI 0 (by decide)
theorem kI255 : (255 : Int) = I 255#64 := kI 255 (by decide)
theorem kI1 : (8317987319222330741 : Int) = I 8317987319222330741#64 := kI 8317987319222330741 (by decide)
theorem kI2 : (7237128888997146477 : Int) = I 7237128888997146477#64 := kI 7237128888997146477 (by decide)
theorem kI3 : (7816392313619706465 : Int) = I 7816392313619706465#64 := kI 7816392313619706465 (by decide)
theorem kI4 : (8387220255154660723 : Int) = I 8387220255154660723#64 := kI 8387220255154660723 (by decide)
theorem xor1 (x : BitVec 64) : bits .xor .u64 (I x) 8317987319222330741 = I (x ^^^ 8317987319222330741#64) := by rw [kI1, xor_I]
theorem xor2 (x : BitVec 64) : bits .xor .u64 (I x) 7237128888997146477 = I (x ^^^ 7237128888997146477#64) := by rw [kI2, xor_I]
theorem xor3 (x : BitVec 64) : bits .xor .u64 (I x) 7816392313619706465 = I (x ^^^ 7816392313619706465#64) := by rw [kI3, xor_I]
theorem xor4 (x : BitVec 64) : bits .xor .u64 (I x) 8387220255154660723 = I (x ^^^ 8387220255154660723#64) := by rw [kI4, xor_I]
theorem xor255 (x : BitVec 64) : bits .xor .u64 (I x) 255 = I (x ^^^ 255#64) := by rw [kI255, xor_I]

/-- Four numbers. -/
structure V4 where
  a : BitVec 64
  b : BitVec 64
  c : BitVec 64
  d : BitVec 64
/-- .. as cells. -/
abbrev V4.cells (v : V4) : Array Value := #[.int .u64 (I v.a), .int .u64 (I v.b), .int .u64 (I v.c), .int .u64 (I v.d)]
abbrev V4.val (v : V4) : Value := .agg v.cells
/-- A turn. -/
def turn (v : V4) : V4 :=
  let a := v.a + v.b
  let b := rl v.b 13 ^^^ a
  let a := rl a 32
  let c := v.c + v.d
  let d := rl v.d 16 ^^^ c
  let a := a + d
  let d := rl d 21 ^^^ a
  let c := c + b
  let b := rl b 17 ^^^ c
  let c := rl c 32
  ⟨a, b, c, d⟩
/-- One eight. -/
def take8 (v : V4) (n : BitVec 64) : V4 :=
  let u := turn (turn ⟨v.a, v.b, v.c, v.d ^^^ n⟩)
  ⟨u.a ^^^ n, u.b, u.c, u.d⟩
/-- The four numbers of a seed. -/
def start (p q : BitVec 64) : V4 := ⟨p ^^^ 8317987319222330741#64, q ^^^ 7237128888997146477#64, p ^^^ 7816392313619706465#64, q ^^^ 8387220255154660723#64⟩
/-- The end. -/
def finish (v : V4) (n : BitVec 64) : BitVec 64 :=
  let u := take8 v n
  let z := turn (turn (turn (turn ⟨u.a, u.b, u.c ^^^ 255#64, u.d⟩)))
  z.a ^^^ z.b ^^^ z.c ^^^ z.d
end Go.Proofs.Ythbgbgobfoecoaa.Crc
namespace Go.Proofs.Ythbgbgobfoecoaa.Crc
open Go.RowKit

theorem cell_lt {w : World} {p : Addr} {v : Value} (h : w.cell? p = some v) : p.block < w.heap.size := by
  apply Decidable.byContradiction
  intro k
  have e : w.heap[p.block]? = none := by simp; omega
  simp [World.cell?, e] at h
theorem keep_cell {W w1 : World} (hb : Below W.heap.size W w1) {p : Addr} {v : Value} (h : W.cell? p = some v) : w1.cell? p = some v := by
  rw [hb.cell (cell_lt h)]; exact h
theorem keep_drew {w : World} {p : Addr} {v : Value} (h : w.cell? p = some v) : w.drew.cell? p = some v := h
theorem keep_alloc {w : World} {p : Addr} {v : Value} (h : w.cell? p = some v) (o : Obj) : (w.alloc o).cell? p = some v := keep_cell ((Below.refl _ _).alloc (Nat.le_refl _) o) h
theorem keep_set {w : World} {p a : Addr} {v : Value} (h : w.cell? p = some v) (u : Value) (hne : p.block ≠ a.block) : (w.setCell a u).cell? p = some v := by
  rw [World.cell?_of_block (w := w) (Below.heap_setCell w a u p.block hne)]; exact h
theorem below_step {w a b : World} (h : Below w.heap.size w a) (k : Below a.heap.size a b) : Below w.heap.size w b := h.trans (k.mono h.size)
theorem below_al {w a : World} (h : Below w.heap.size w a) (o : Obj) : Below w.heap.size w (a.alloc o) := h.alloc h.size o

/-- Block g is just these cells, and may be written. -/
def Box (w : World) (g : Nat) (cs : Array Value) : Prop := ∃ t, w.heap[g]? = some (.cells cs t (0, 0))
section
variable {w w' : World} {g : Nat} {cs : Array Value}
theorem Box.lt (h : Box w g cs) : g < w.heap.size := by obtain ⟨_, h⟩ := h; exact (Array.getElem?_eq_some_iff.1 h).1
theorem Box.cell (h : Box w g cs) {i : Nat} {v : Value} (hi : cs[i]? = some v) : w.cell? ⟨g, i, none⟩ = some v := by
  obtain ⟨_, h⟩ := h
  simp [World.cell?, h, hi]
theorem Box.melt (h : Box w g cs) (i : Nat) : w.frozen? ⟨g, i, none⟩ = false := by
  obtain ⟨_, h⟩ := h
  simp [World.frozen?, h]
theorem Box.drew (h : Box w g cs) : Box w.drew g cs := h
theorem Box.next (h : Box w g cs) (hb : Below w.heap.size w w') : Box w' g cs := by
  have l := h.lt
  obtain ⟨t, h⟩ := h
  exact ⟨t, (hb.block g l).trans h⟩
theorem Box.alloc (h : Box w g cs) (o : Obj) : Box (w.alloc o) g cs := h.next ((Below.refl _ _).alloc (Nat.le_refl _) o)
theorem Box.far (h : Box w g cs) {p : Addr} (hp : g ≠ p.block) (u : Value) : Box (w.setCell p u) g cs := by
  obtain ⟨t, h⟩ := h
  exact ⟨t, (Below.heap_setCell w p u g hp).trans h⟩
theorem Box.set (h : Box w g cs) (i : Nat) (u : Value) : Box (w.setCell ⟨g, i, none⟩ u) g (cs.setIfInBounds i u) := by
  obtain ⟨t, h⟩ := h
  exact ⟨t, by simp [World.setCell, Array.getElem?_modify, h]⟩
theorem Box.new (w : World) (cs : Array Value) (t : TypeId) : Box (w.alloc (.cells cs t)) w.heap.size cs := ⟨t, heap_alloc_new w _⟩
end
theorem below_set {B : Nat} {w W : World} (h : Below B w W) {p : Addr} (hp : B ≤ p.block) (u : Value) : Below B w (W.setCell p u) :=
  ⟨h.os, h.tape, h.output, by rw [show (W.setCell p u).heap.size = W.heap.size by simp [World.setCell]]; exact h.size, fun k hk => (Below.heap_setCell W p u k (by omega)).trans (h.block k hk)⟩

/-- Two blocks of the call's own; below them nothing has turned. -/
structure Two (w : World) (g r : Nat) (cs ds : Array Value) (W : World) : Prop where
  bg : Box W g cs
  br : Box W r ds
  ne : g ≠ r
  hg : w.heap.size ≤ g
  hr : w.heap.size ≤ r
  bl : Below w.heap.size w W
section
variable {w W W' : World} {g r : Nat} {cs ds : Array Value}
theorem Two.drew (h : Two w g r cs ds W) : Two w g r cs ds W.drew := ⟨h.bg, h.br, h.ne, h.hg, h.hr, h.bl.drew⟩
theorem Two.next (h : Two w g r cs ds W) (hb : Below W.heap.size W W') : Two w g r cs ds W' := ⟨h.bg.next hb, h.br.next hb, h.ne, h.hg, h.hr, below_step h.bl hb⟩
theorem Two.set (h : Two w g r cs ds W) (i : Nat) (u : Value) : Two w g r (cs.setIfInBounds i u) ds (W.setCell ⟨g, i, none⟩ u) :=
  ⟨h.bg.set i u, h.br.far (Ne.symm h.ne) u, h.ne, h.hg, h.hr, below_set h.bl h.hg u⟩
theorem Two.new (w : World) (cs ds : Array Value) (t t' : TypeId) : Two w w.heap.size (w.heap.size + 1) cs ds ((w.alloc (.cells cs t)).alloc (.cells ds t')) :=
  ⟨(Box.new w cs t).alloc _, by simpa using Box.new (w.alloc (.cells cs t)) ds t', by omega, Nat.le_refl _, by omega, below_al ((Below.refl _ _).alloc (Nat.le_refl _) _) _⟩
end
theorem Two.swap {w W : World} {g r : Nat} {cs ds : Array Value} (h : Two w g r cs ds W) : Two w r g ds cs W := ⟨h.br, h.bg, Ne.symm h.ne, h.hr, h.hg, h.bl⟩
theorem Two.put4 {w W : World} {g r : Nat} {cs : Array Value} {z0 z1 z2 z3 : Value} (h : Two w g r cs #[z0, z1, z2, z3] W) (a b c d : Value) :
    Two w g r cs #[a, b, c, d] ((((W.setCell ⟨r, 0, none⟩ a).setCell ⟨r, 1, none⟩ b).setCell ⟨r, 2, none⟩ c).setCell ⟨r, 3, none⟩ d) :=
  ((((h.swap.set 0 a).set 1 b).set 2 c).set 3 d).swap
/-- One block of the call's own. -/
structure One (w : World) (g : Nat) (cs : Array Value) (W : World) : Prop where
  bg : Box W g cs
  hg : w.heap.size ≤ g
  bl : Below w.heap.size w W
section
variable {w W W' : World} {g : Nat} {cs : Array Value}
theorem One.drew (h : One w g cs W) : One w g cs W.drew := ⟨h.bg, h.hg, h.bl.drew⟩
theorem One.next (h : One w g cs W) (hb : Below W.heap.size W W') : One w g cs W' := ⟨h.bg.next hb, h.hg, below_step h.bl hb⟩
theorem One.set (h : One w g cs W) (i : Nat) (u : Value) : One w g (cs.setIfInBounds i u) (W.setCell ⟨g, i, none⟩ u) := ⟨h.bg.set i u, h.hg, below_set h.bl h.hg u⟩
theorem One.new (w : World) (cs : Array Value) (t : TypeId) : One w w.heap.size cs (w.alloc (.cells cs t)) := ⟨Box.new w cs t, Nat.le_refl _, (Below.refl _ _).alloc (Nat.le_refl _) _⟩
theorem One.put4 {z0 z1 z2 z3 : Value} (h : One w g #[z0, z1, z2, z3] W) (a b c d : Value) :
    One w g #[a, b, c, d] ((((W.setCell ⟨g, 0, none⟩ a).setCell ⟨g, 1, none⟩ b).setCell ⟨g, 2, none⟩ c).setCell ⟨g, 3, none⟩ d) :=
  (((h.set 0 a).set 1 b).set 2 c).set 3 d
end
end Go.Proofs.Ythbgbgobfoecoaa.Crc
namespace Go.Proofs.Ythbgbgobfoecoaa.Crc

/-- The bytes of a text; the text of bytes. -/
abbrev L (s : ByteArray) : List UInt8 := s.data.toList
abbrev bs (l : List UInt8) : ByteArray := ⟨l.toArray⟩
theorem L_bs (l : List UInt8) : L (bs l) = l := rfl
theorem bs_L (s : ByteArray) : bs (L s) = s := by cases s; simp
theorem L_len (s : ByteArray) : (L s).length = s.size := by cases s; simp [ByteArray.size]
theorem bs_size (l : List UInt8) : (bs l).size = l.length := by simp [ByteArray.size]
theorem L_ext (s : ByteArray) (a b : Nat) : L (s.extract a b) = ((L s).drop a).take (b - a) := by
  obtain ⟨l, rfl⟩ : ∃ l, s = bs l := ⟨L s, (bs_L s).symm⟩
  rw [ByteArray.extract_mk]
theorem L_take (s : ByteArray) (k : Nat) : L (s.extract 0 k) = (L s).take k := by rw [L_ext]; simp
theorem L_drop (s : ByteArray) (k : Nat) : L (s.extract k s.size) = (L s).drop k := by
  rw [L_ext, List.take_of_length_le (by rw [List.length_drop, L_len]; exact Nat.le_refl _)]
/-- The number of bytes, the lowest first. -/
def lnum : List UInt8 → Nat
  | [] => 0
  | b :: r => b.toNat + 256 * lnum r
theorem lnum_lt : ∀ l : List UInt8, lnum l < 2 ^ (8 * l.length)
  | [] => by simp [lnum]
  | b :: r => by
    have := lnum_lt r
    have h := b.toNat_lt
    simp only [lnum, List.length_cons, Nat.mul_add, Nat.pow_add]
    omega
theorem lnum_snoc : ∀ (l : List UInt8) (b : UInt8), lnum (l ++ [b]) = lnum l + 2 ^ (8 * l.length) * b.toNat
  | [], b => by simp [lnum]
  | a :: r, b => by
    simp only [List.cons_append, lnum, lnum_snoc r b, List.length_cons, Nat.mul_add, Nat.pow_add]
    rw [← Nat.add_assoc, Nat.mul_comm (2 ^ (8 * r.length)) (2 ^ (8 * 1)), Nat.mul_assoc]
/-- .. as a word. -/
@[irreducible] def num (l : List UInt8) : BitVec 64 := BitVec.ofNat 64 (lnum l)
theorem num_nil : num [] = 0#64 := by unfold num; rfl
theorem num_toNat {l : List UInt8} (h : l.length ≤ 8) : (num l).toNat = lnum l := by
  unfold num
  rw [BitVec.toNat_ofNat]
  exact Nat.mod_eq_of_lt (Nat.lt_of_lt_of_le (lnum_lt l) (Nat.pow_le_pow_right (by decide) (by omega)))
theorem num_snoc {l : List UInt8} (b : UInt8) (h : l.length < 8) : num (l ++ [b]) = num l ||| BitVec.ofNat 64 b.toNat <<< (8 * l.length) := by
  apply BitVec.eq_of_toNat_eq
  have hb := b.toNat_lt
  have hp : 2 ^ (8 * l.length) * 256 ≤ 2 ^ 64 := by
    rw [show 256 = 2 ^ 8 from rfl, ← Nat.pow_add]; exact Nat.pow_le_pow_right (by decide) (by omega)
  have hm : b.toNat * 2 ^ (8 * l.length) < 2 ^ 64 := by
    have : 2 ^ (8 * l.length) * b.toNat ≤ 2 ^ (8 * l.length) * 255 := Nat.mul_le_mul_left _ (by omega)
    have h1 : 0 < 2 ^ (8 * l.length) := Nat.pow_pos (by decide)
    rw [Nat.mul_comm]; omega
  rw [num_toNat (by simp; omega), BitVec.toNat_or, num_toNat (by omega), BitVec.toNat_shiftLeft, BitVec.toNat_ofNat, Nat.mod_eq_of_lt (a := b.toNat) (by omega), Nat.shiftLeft_eq, Nat.mod_eq_of_lt hm, lnum_snoc, Nat.or_comm, Nat.mul_comm b.toNat, ← Nat.two_pow_add_eq_or_of_lt (lnum_lt l), Nat.add_comm]
theorem wrapByte (b : UInt8) : IntKind.u64.wrap (b.toNat : Int) = I (BitVec.ofNat 64 b.toNat) := by
  have := b.toNat_lt
  rw [← kI _ (by omega), IntKind.wrap_u64]; omega
theorem shl2 (x : BitVec 64) (k : Nat) : IntKind.u64.wrap (I x * 2 ^ k) = I (x <<< k) := by
  rw [← shl_I, Int.natCast_pow]; rfl
theorem orByte (r : BitVec 64) (b : UInt8) (k : Nat) : bits BinOp.or IntKind.u64 (I r) (IntKind.u64.wrap (IntKind.u64.wrap (b.toNat : Int) * 2 ^ k)) = I (r ||| BitVec.ofNat 64 b.toNat <<< k) := by
  rw [wrapByte, shl2, or_I]
/-- Eights, so many. -/
def eightsN : Nat → V4 → List UInt8 → V4
  | 0, v, _ => v
  | n + 1, v, l => eightsN n (take8 v (num (l.take 8))) (l.drop 8)
theorem eightsN_snoc : ∀ (n : Nat) (v : V4) (l : List UInt8), eightsN (n + 1) v l = take8 (eightsN n v l) (num ((l.drop (8 * n)).take 8))
  | 0, v, l => by simp [eightsN]
  | n + 1, v, l => by
    rw [eightsN, eightsN_snoc n, eightsN, List.drop_drop]
    rw [show 8 + 8 * n = 8 * (n + 1) by omega]
/-- All whole eights; the bytes behind. -/
def eights (v : V4) (l : List UInt8) : V4 := eightsN (l.length / 8) v l
def rest (l : List UInt8) : List UInt8 := l.drop (8 * (l.length / 8))
theorem rest_len (l : List UInt8) : (rest l).length = l.length % 8 := by unfold rest; simp; omega
/-- What is behind the eights, with how many there were. -/
def lastn (t : List UInt8) (n : Nat) : BitVec 64 := num t ||| BitVec.ofNat 64 n <<< 56
/-- The hash. -/
def hash (p q : BitVec 64) (l : List UInt8) : BitVec 64 := finish (eights (start p q) l) (lastn (rest l) l.length)
end Go.Proofs.Ythbgbgobfoecoaa.Crc
namespace Go.Proofs.Ythbgbgobfoecoaa.Crc

/-- A word as the program has it. -/
@[irreducible] def J (x : BitVec 32) : Int := (x.toNat : Int)
theorem J_eq (x : BitVec 32) : J x = (x.toNat : Int) := by unfold J; rfl
theorem J_nn (x : BitVec 32) : 0 ≤ J x := by rw [J_eq]; omega
theorem J_lt (x : BitVec 32) : J x < 4294967296 := by rw [J_eq]; have := x.isLt; omega
theorem J_inj {x y : BitVec 32} (h : J x = J y) : x = y := by
  rw [J_eq, J_eq] at h; apply BitVec.eq_of_toNat_eq; omega
theorem J_iff (x y : BitVec 32) : (J x = J y) ↔ x = y := ⟨J_inj, fun h => by rw [h]⟩
theorem J_of {n : Int} (h0 : 0 ≤ n) (h1 : n < 4294967296) : ∃ x, n = J x := by
  refine ⟨BitVec.ofNat 32 n.toNat, ?_⟩
  rw [J_eq, BitVec.toNat_ofNat, Nat.mod_eq_of_lt (by omega)]; omega
theorem kJ (n : Nat) (h : n < 4294967296) : ((n : Nat) : Int) = J (BitVec.ofNat 32 n) := by
  rw [J_eq, BitVec.toNat_ofNat, Nat.mod_eq_of_lt (by omega)]
theorem kJ0 : (0 : Int) = J 0#32 := kJ 0 (by decide)
theorem kJ1 : (1 : Int) = J 1#32 := kJ 1 (by decide)
theorem kJp : (2197175160 : Int) = J pol := kJ 2197175160 (by decide)
theorem xor_J (x y : BitVec 32) : bits .xor .u32 (J x) (J y) = J (x ^^^ y) := by
  rw [J_eq, J_eq, J_eq, u32_xor_nat _ _ (by have := x.isLt; omega) (by have := y.isLt; omega), BitVec.toNat_xor]
theorem and_J (x y : BitVec 32) : bits .and .u32 (J x) (J y) = J (x &&& y) := by
  rw [J_eq, J_eq, J_eq, u32_and_nat _ _ (by have := x.isLt; omega) (by have := y.isLt; omega), BitVec.toNat_and]
theorem shr_J (x : BitVec 32) (k : Nat) : J x / ((2 ^ k : Nat) : Int) = J (x >>> k) := by
  rw [J_eq, J_eq, BitVec.toNat_ushiftRight, Nat.shiftRight_eq_div_pow]; omega
theorem shr1_J (x : BitVec 32) : J x / (2 : Int) = J (x >>> 1) := by have := shr_J x 1; simpa using this
theorem shr8_J (x : BitVec 32) : J x / (256 : Int) = J (x >>> 8) := by have := shr_J x 8; simpa using this
theorem not_J (x : BitVec 32) : 4294967295 - J x = J (~~~ x) := by
  rw [J_eq, J_eq, BitVec.toNat_not]; have := x.isLt; omega
theorem cnot_J (x : BitVec 32) : bits BinOp.xor IntKind.u32 IntKind.u32.max (J x) = J (~~~ x) := by
  rw [show IntKind.u32.max = J 4294967295#32 from (kJ 4294967295 (by decide)), xor_J, ← BitVec.allOnes_xor]; rfl
theorem neg_J (x : BitVec 32) : IntKind.u32.wrap (- J x) = J (- x) := by
  rw [J_eq, J_eq, IntKind.wrap_u32', BitVec.toNat_neg]; have := x.isLt; omega
theorem getLsbD_zero (x : BitVec 32) : x.getLsbD 0 = decide (x.toNat % 2 = 1) := by
  rw [BitVec.getLsbD, Nat.testBit_zero]
theorem and_one (x : BitVec 32) : x &&& 1#32 = if x.getLsbD 0 then 1#32 else 0#32 := by
  apply BitVec.eq_of_toNat_eq
  rw [BitVec.toNat_and, getLsbD_zero, BitVec.toNat_ofNat, show 1 % 2 ^ 32 = 1 from rfl, Nat.and_one_is_mod]
  by_cases h : x.toNat % 2 = 1
  · rw [decide_eq_true h, if_pos rfl]; simp [h]
  · rw [decide_eq_false h, if_neg (by decide)]; simp; omega
/-- A bit, by the number of ones. -/
theorem half_and (x : BitVec 32) : half x = (x >>> 1) ^^^ (pol &&& - (x &&& 1#32)) := by
  unfold half
  rw [and_one]
  cases x.getLsbD 0
  · rw [if_neg (by decide), if_neg (by decide), show pol &&& - 0#32 = 0#32 by decide, BitVec.xor_zero]
  · rw [if_pos rfl, if_pos rfl, show pol &&& - 1#32 = pol by decide]
theorem halfN_snoc : ∀ (n : Nat) (x : BitVec 32), halfN (n + 1) x = half (halfN n x)
  | 0, _ => rfl
  | n + 1, x => by rw [halfN, halfN_snoc n (half x)]; rfl
theorem half_J (r : BitVec 32) : bits BinOp.xor IntKind.u32 (J r / 2) (bits BinOp.and IntKind.u32 2197175160 (-bits BinOp.and IntKind.u32 (J r) 1 % 4294967296)) = J (half r) := by
  rw [← IntKind.wrap_u32', kJ1, and_J, neg_J, kJp, and_J, shr1_J, xor_J, half_and]
theorem half_odd (r : BitVec 32) (h : J r % 2 = 1) : bits BinOp.xor IntKind.u32 (J r / 2) 2197175160 = J (half r) := by
  rw [kJp, shr1_J, xor_J]
  unfold half
  rw [getLsbD_zero, if_pos (decide_eq_true (by rw [J_eq] at h; omega))]
theorem half_even (r : BitVec 32) (h : ¬ J r % 2 = 1) : J r / 2 = J (half r) := by
  rw [shr1_J]
  unfold half
  rw [getLsbD_zero, if_neg (by rw [decide_eq_true_iff]; rw [J_eq] at h; omega)]
theorem tdiv_J (r : BitVec 32) : (J r).tdiv 2 = J (r >>> 1) := by
  rw [Int.tdiv_eq_ediv_of_nonneg (J_nn r), shr1_J]
theorem mod_J (r : BitVec 32) : J r % 4294967296 = J r := Int.emod_eq_of_lt (J_nn r) (J_lt r)
theorem tmod_J (r : BitVec 32) : (J r).tmod 2 = J r % 2 := Int.tmod_eq_emod_of_nonneg (J_nn r)
theorem odd_J (r : BitVec 32) (h : (J r).tmod 2 = 1) : bits BinOp.xor IntKind.u32 (J (r >>> 1)) 2197175160 = J (half r) := by
  rw [← shr1_J, half_odd r (by rw [← tmod_J]; exact h)]
theorem even_J (r : BitVec 32) (h : (J r).tmod 2 = 0) : J (r >>> 1) = J (half r) := by
  rw [← shr1_J, half_even r (by rw [← tmod_J, h]; decide)]
theorem tm_cases (r : BitVec 32) : (J r).tmod 2 = 1 ∨ (J r).tmod 2 = 0 := by rw [tmod_J]; have := J_nn r; omega
/-- The lowest byte. -/
def lo (x : BitVec 32) : UInt8 := UInt8.ofNat x.toNat
theorem lo_toNat (x : BitVec 32) : (lo x).toNat = x.toNat % 256 := by unfold lo; rw [UInt8.toNat_ofNat']
theorem wrap8_J (x : BitVec 32) : IntKind.u8.wrap (J x) = ((lo x).toNat : Int) := by
  rw [J_eq, IntKind.wrap_u8', lo_toNat]; omega
theorem mod8_J (x : BitVec 32) : J x % 256 = ((lo x).toNat : Int) := by
  rw [J_eq, lo_toNat]; omega
theorem xor_8 (a b : UInt8) : bits .xor .u8 (a.toNat : Int) (b.toNat : Int) = ((a ^^^ b).toNat : Int) := by
  rw [u8_xor_nat _ _ a.toNat_lt b.toNat_lt, UInt8.toNat_xor]
/-- A byte as a word. -/
@[irreducible] def w8 (b : UInt8) : BitVec 32 := BitVec.ofNat 32 b.toNat
theorem w8_eq (b : UInt8) : w8 b = BitVec.ofNat 32 b.toNat := by unfold w8; rfl
theorem J_w8 (b : UInt8) : J (w8 b) = (b.toNat : Int) := by
  have := b.toNat_lt
  rw [w8_eq, ← kJ _ (by omega)]
theorem wrap32_8 (b : UInt8) : IntKind.u32.wrap (b.toNat : Int) = J (w8 b) := by
  have := b.toNat_lt
  rw [J_w8, IntKind.wrap_u32']; omega
theorem wrap64_8 (b : UInt8) : IntKind.i64.wrap (b.toNat : Int) = (b.toNat : Int) := by
  have := b.toNat_lt
  rw [IntKind.wrap_i64]; omega
theorem shr8_xor (x : BitVec 32) (b : UInt8) : (x ^^^ w8 b) >>> 8 = x >>> 8 := by
  rw [BitVec.ushiftRight_xor_distrib, w8_eq]
  have : (BitVec.ofNat 32 b.toNat) >>> 8 = 0#32 := by
    apply BitVec.eq_of_toNat_eq
    have := b.toNat_lt
    rw [BitVec.toNat_ushiftRight, Nat.shiftRight_eq_div_pow, BitVec.toNat_ofNat, Nat.mod_eq_of_lt (by omega), Nat.div_eq_of_lt (by omega)]; rfl
  rw [this, BitVec.xor_zero]
theorem low_and (x : BitVec 32) : x &&& 255#32 = w8 (lo x) := by
  apply BitVec.eq_of_toNat_eq
  have h := (lo x).toNat_lt
  rw [w8_eq, BitVec.toNat_and, BitVec.toNat_ofNat, BitVec.toNat_ofNat, Nat.mod_eq_of_lt (a := (lo x).toNat) (by omega), lo_toNat, show 255 % 2 ^ 32 = 2 ^ 8 - 1 from rfl, Nat.and_two_pow_sub_one_eq_mod]
theorem lo_xor (x : BitVec 32) (b : UInt8) : lo (x ^^^ w8 b) = lo x ^^^ b := by
  apply UInt8.toNat_inj.1
  have hb := b.toNat_lt
  rw [lo_toNat, BitVec.toNat_xor, UInt8.toNat_xor, lo_toNat, w8_eq, BitVec.toNat_ofNat, Nat.mod_eq_of_lt (a := b.toNat) (by omega)]
  rw [show (256 : Nat) = 2 ^ 8 from rfl, Nat.xor_mod_two_pow, Nat.mod_eq_of_lt (a := b.toNat) (by omega)]
/-- A byte, by the table. -/
theorem crcStep_table (x : BitVec 32) (b : UInt8) : crcStep x b = (x >>> 8) ^^^ crcAt (w8 (lo x ^^^ b)) := by
  unfold crcStep
  rw [← w8_eq, step_table, shr8_xor, low_and, lo_xor]
/-- The table's numbers. -/
@[irreducible] def tab (b : UInt8) : BitVec 32 := crcAt (w8 b)
theorem tab_eq (b : UInt8) : tab b = crcAt (w8 b) := by unfold tab; rfl
theorem crcStep_tab (x : BitVec 32) (b : UInt8) : crcStep x b = (x >>> 8) ^^^ tab (lo x ^^^ b) := by rw [tab_eq, crcStep_table]
theorem tab_xor (a b : UInt8) : tab (a ^^^ b) = tab a ^^^ tab b := by
  rw [tab_eq, tab_eq, tab_eq, ← crcAt_xor, w8_eq, w8_eq, w8_eq, ofNat_xor8]
theorem tab_zero : tab 0 = 0#32 := by rw [tab_eq, w8_eq]; exact crcAt_zero
end Go.Proofs.Ythbgbgobfoecoaa.Crc
namespace Go.Proofs.Ythbgbgobfoecoaa.Crc
open Go.RowKit
set_option maxHeartbeats 2000000
set_option maxRecDepth 100000
theorem place_any (b : UInt8) (w : World) : Calls Try.prog 44 #[.int .u8 (b.toNat : Int)] w fun e w' => e = .returned (.int .u32 (J (tab b))) ∧ w = w' := by
  have hb : (b.toNat : Int) < 256 := by have := b.toNat_lt; omega
  go_enter Try.func44, Try.ntmps44
  go_wp2_with fail
  go_loopg [3, 7] 8 (fun q s3 s7 wr => ∃ k : Nat, k + q = 8 ∧ s7 = .int .i64 (k : Int) ∧ s3 = .int .u32 (J (halfN k (w8 b))) ∧ w = wr)
  case atStart => exact ⟨0, by omega, rfl, by rw [halfN, J_w8], rfl⟩
  case round =>
    obtain ⟨k, hq, rfl, rfl, rfl⟩ := hrel
    have HQ := Lib.hid hq
    by_cases lt : k < 8
    · have il : (k : Int) < 8 := by omega
      have E := Lib.hid (halfN_snoc k (w8 b))
      generalize halfN k (w8 b) = r at *
      clear hq
      go_wp2_with fail
      go_roundg (gk - 1)
      case measure => have := HQ.out; omega
      case rel =>
        go_light
        exact ⟨k + 1, by have := HQ.out; omega, by go_num, by rw [E.out, half_J], rfl⟩
    · obtain rfl : 8 = k := by omega
      clear hq
      go_wp2_with fail
      go_ret
      exact ⟨by rw [tab_eq]; rfl, rfl⟩
end Go.Proofs.Ythbgbgobfoecoaa.Crc
namespace Go.Proofs.Ythbgbgobfoecoaa.Crc
open Go.RowKit
set_option maxHeartbeats 2000000
set_option maxRecDepth 100000
theorem L_app (a b : ByteArray) : L (a ++ b) = L a ++ L b := by cases a; cases b; simp
theorem upd_take (x : BitVec 32) (s : ByteArray) (k : Nat) (h : k < s.size) : upd x ((L s).take (k + 1)) = crcStep (upd x ((L s).take k)) s[k] := by
  rw [List.take_succ_eq_append_getElem (by rw [L_len]; exact h), upd_snoc]; rfl
theorem L_all (s : ByteArray) : (L s).take s.size = L s := List.take_of_length_le (by rw [L_len]; exact Nat.le_refl _)
theorem byPlaces_any (x : BitVec 32) (s : ByteArray) (hs : s.size ≤ 100000) (w : World) : Calls Try.prog 40 #[.int .u32 (J x), .string s] w fun e w' => e = .returned (.int .u32 (J (upd x (L s)))) ∧ w = w' := by
  go_enter Try.func40, Try.ntmps40
  go_wp2_with fail
  go_loopg [0, 8] s.size (fun q s0 s8 wr => ∃ k : Nat, k + q = s.size ∧ s8 = .int .i64 (k : Int) ∧ s0 = .int .u32 (J (upd x ((L s).take k))) ∧ w = wr)
  case atStart => exact ⟨0, by omega, rfl, by rw [List.take_zero, upd_nil], rfl⟩
  case round =>
    obtain ⟨k, hq, rfl, rfl, rfl⟩ := hrel
    have HQ := Lib.hid hq
    by_cases lt : k < s.size
    · have il : (k : Int) < s.size := by omega
      have il0 : (0 : Int) ≤ k := by omega
      have E := Lib.hid (upd_take x s k lt)
      generalize upd x ((L s).take k) = r at *
      have W8 := wrap8_J r
      have X8 := xor_8 (lo r) s[k]
      have K := Lib.hid (place_any (lo r ^^^ s[k]))
      have E2 := Lib.hid (crcStep_tab r s[k])
      clear hq
      go_wp2_with fail
      refine (K.out _).mono ?_
      rintro e y ⟨rfl, rfl⟩
      go_wp2_with fail
      rw [shr8_J, xor_J, ← E2.out]
      go_roundg (gk - 1)
      case measure => have := HQ.out; omega
      case rel =>
        go_light
        exact ⟨k + 1, by have := HQ.out; omega, by go_num, by rw [E.out], rfl⟩
    · obtain rfl : s.size = k := by omega
      have il : ¬ (s.size : Int) < s.size := by omega
      have E : Hid ((L s).take s.size = L s) := L_all s
      clear hq
      go_wp2_with fail
      go_ret
      exact ⟨by rw [E.out]; rfl, rfl⟩
end Go.Proofs.Ythbgbgobfoecoaa.Crc
namespace Go.Proofs.Ythbgbgobfoecoaa.Crc
open Go.RowKit
set_option maxHeartbeats 2000000
set_option maxRecDepth 100000
theorem crcStep_w8 (x : BitVec 32) (b : UInt8) : crcStep x b = halfN 8 (x ^^^ w8 b) := by rw [w8_eq]; rfl
theorem refMore_any (x : BitVec 32) (s : ByteArray) (hs : s.size ≤ 100000) (w : World) : Calls Try.prog 24 #[.int .u32 (J x), .string s] w fun e w' => e = .returned (.int .u32 (J (crcMore x (L s)))) ∧ w = w' := by
  have N := not_J x
  have N2 := mod_J (~~~ x)
  go_enter Try.func24, Try.ntmps24
  go_wp2_with fail
  obtain ⟨y, hy⟩ : ∃ y, Hid (y = ~~~ x) := ⟨_, Lib.hid rfl⟩
  rw [← hy.out]
  clear N N2
  go_loopg [5, 6] s.size (fun q s5 s6 wr => ∃ k : Nat, k + q = s.size ∧ s6 = .int .i64 (k : Int) ∧ s5 = .int .u32 (J (upd y ((L s).take k))) ∧ w = wr)
  case atStart => exact ⟨0, by omega, rfl, by rw [List.take_zero, upd_nil], rfl⟩
  case round =>
    obtain ⟨k, hq, rfl, rfl, rfl⟩ := hrel
    have HQ := Lib.hid hq
    obtain ⟨X, hX⟩ : ∃ X, X = gk := ⟨_, rfl⟩
    by_cases lt : k < s.size
    · have il : (k : Int) < s.size := by omega
      have il0 : (0 : Int) ≤ k := by omega
      have GP : Hid (1 ≤ gk) := by unfold Hid; omega
      have E := Lib.hid (upd_take y s k lt)
      generalize upd y ((L s).take k) = r at *
      have W8 := J_w8 s[k]
      have E2 := Lib.hid (crcStep_w8 r s[k])
      have XJ := Lib.hid (xor_J r (w8 s[k]))
      clear hq
      go_wp2_with fail
      rw [← W8, mod_J, XJ.out]
      clear W8
      generalize r ^^^ w8 s[k] = z at *
      go_loopg [5, 7] 8 (fun q s5 s7 wr => ∃ j : Nat, j + q = 8 ∧ s7 = .int .i64 (j : Int) ∧ s5 = .int .u32 (J (halfN j z)) ∧ w = wr)
      case atStart => exact ⟨0, by omega, rfl, by rw [halfN], rfl⟩
      case round =>
        obtain ⟨j, hq, rfl, rfl, rfl⟩ := hrel
        have HJ := Lib.hid hq
        by_cases lt8 : j < 8
        · have jl : (j : Int) < 8 := by omega
          have F := Lib.hid (halfN_snoc j z)
          generalize halfN j z = r at *
          clear hq
          have T := tdiv_J r
          have M := mod_J (r >>> 1)
          rcases tm_cases r with od | od
          · have HO := Lib.hid (odd_J r od)
            go_wp2_with fail
            go_roundg (gk - 1)
            case measure => have := HJ.out; omega
            case rel =>
              go_light
              exact ⟨j + 1, by have := HJ.out; omega, by go_num, by rw [F.out, HO.out], rfl⟩
          · have HO := Lib.hid (even_J r od)
            go_wp2_with fail
            go_roundg (gk - 1)
            case measure => have := HJ.out; omega
            case rel =>
              go_light
              exact ⟨j + 1, by have := HJ.out; omega, by go_num, by rw [F.out, HO.out], rfl⟩
        · obtain rfl : 8 = j := by omega
          clear hq
          go_wp2_with fail
          go_roundg (X - 1)
          case measure => have := GP.out; omega
          case rel =>
            go_light
            exact ⟨k + 1, by have := HQ.out; have := GP.out; omega, by go_num, by rw [E.out, E2.out], rfl⟩
    · obtain rfl : s.size = k := by omega
      have il : ¬ (s.size : Int) < s.size := by omega
      have E : Hid ((L s).take s.size = L s) := L_all s
      have N := not_J (upd y ((L s).take s.size))
      have N2 := mod_J (~~~ (upd y ((L s).take s.size)))
      clear hq
      go_wp2_with fail
      go_ret
      refine ⟨?_, rfl⟩
      unfold crcMore
      rw [E.out, hy.out]; rfl
end Go.Proofs.Ythbgbgobfoecoaa.Crc
namespace Go.Proofs.Ythbgbgobfoecoaa

/-- One more than the greatest limb. -/
@[irreducible] def B : Nat := 4294967296
theorem B_eq : B = 4294967296 := by unfold B; rfl
theorem B_pos : 0 < B := by rw [B_eq]; decide

/-- The number of limbs, the lowest first. -/
def val : List Nat → Nat
  | [] => 0
  | x :: r => x + B * val r
theorem val_nil : val [] = 0 := rfl
theorem val_cons (x : Nat) (r : List Nat) : val (x :: r) = x + B * val r := rfl

/-- Limbs are below B. -/
def Lo (xs : List Nat) : Prop := ∀ x ∈ xs, x < 4294967296
theorem Lo.nil : Lo [] := fun x hx => by cases hx
theorem Lo.cons {x : Nat} {r : List Nat} (h : x < 4294967296) (k : Lo r) : Lo (x :: r) := fun y hy => by
  rcases List.mem_cons.1 hy with rfl | hy
  · exact h
  · exact k y hy
theorem Lo.head {x : Nat} {r : List Nat} (h : Lo (x :: r)) : x < 4294967296 := h x (by simp)
theorem Lo.tail {x : Nat} {r : List Nat} (h : Lo (x :: r)) : Lo r := fun y hy => h y (by simp [hy])
theorem Lo.append {xs ys : List Nat} (h : Lo xs) (k : Lo ys) : Lo (xs ++ ys) := fun y hy => by
  rcases List.mem_append.1 hy with hy | hy
  · exact h y hy
  · exact k y hy
theorem Lo.take {xs : List Nat} (h : Lo xs) (k : Nat) : Lo (xs.take k) := fun y hy => h y (List.mem_of_mem_take hy)
theorem Lo.drop {xs : List Nat} (h : Lo xs) (k : Nat) : Lo (xs.drop k) := fun y hy => h y (List.mem_of_mem_drop hy)
theorem Lo.at_ {xs : List Nat} (h : Lo xs) (k : Nat) (hk : k < xs.length) : xs[k] < 4294967296 := h _ (List.getElem_mem hk)

theorem val_append (xs ys : List Nat) : val (xs ++ ys) = val xs + B ^ xs.length * val ys := by
  induction xs with
  | nil => simp [val_nil]
  | cons x r ih => rw [List.cons_append, val_cons, val_cons, ih, List.length_cons, Nat.pow_succ, Nat.mul_add, Nat.add_assoc, Nat.mul_comm (B ^ r.length) B, Nat.mul_assoc]
theorem val_snoc (xs : List Nat) (y : Nat) : val (xs ++ [y]) = val xs + B ^ xs.length * y := by
  rw [val_append]; simp [val_cons, val_nil]
theorem take_snoc (xs : List Nat) (k : Nat) (h : k < xs.length) : xs.take (k + 1) = xs.take k ++ [xs[k]] := List.take_succ_eq_append_getElem h
theorem val_take_succ (xs : List Nat) (k : Nat) (h : k < xs.length) : val (xs.take (k + 1)) = val (xs.take k) + B ^ k * xs[k] := by
  rw [take_snoc xs k h, val_snoc, List.length_take, Nat.min_eq_left (by omega)]
theorem val_split (xs : List Nat) (k : Nat) (h : k ≤ xs.length) : val xs = val (xs.take k) + B ^ k * val (xs.drop k) := by
  conv => lhs; rw [← List.take_append_drop k xs]
  rw [val_append, List.length_take, Nat.min_eq_left h]
theorem val_drop (xs : List Nat) (k : Nat) (h : k < xs.length) : val (xs.drop k) = xs[k] + B * val (xs.drop (k + 1)) := by
  rw [List.drop_eq_getElem_cons h, val_cons]
theorem val_lt {xs : List Nat} (h : Lo xs) : val xs < B ^ xs.length := by
  induction xs with
  | nil => simp [val_nil]
  | cons x r ih =>
    have i := ih h.tail
    have e : B ^ (x :: r).length = B * B ^ r.length := by rw [List.length_cons, Nat.pow_succ, Nat.mul_comm]
    have hx := h.head
    rw [← B_eq] at hx
    rw [val_cons, e]
    have : B * (val r + 1) ≤ B * B ^ r.length := Nat.mul_le_mul_left _ i
    rw [Nat.mul_add] at this
    omega
theorem val_zeros (n : Nat) : val (List.replicate n 0) = 0 := by
  induction n with
  | zero => rfl
  | succ n ih => rw [List.replicate_succ, val_cons, ih, Nat.mul_zero]
theorem val_append_zeros (xs : List Nat) (n : Nat) : val (xs ++ List.replicate n 0) = val xs := by rw [val_append, val_zeros, Nat.mul_zero, Nat.add_zero]

/-- The limbs of a number. -/
def limbs (n : Nat) : List Nat := if h : n = 0 then [] else n % 4294967296 :: limbs (n / 4294967296)
termination_by n
decreasing_by exact Nat.div_lt_self (Nat.pos_of_ne_zero h) (by decide)
theorem limbs_zero : limbs 0 = [] := by rw [limbs]; rfl
theorem limbs_pos {n : Nat} (h : n ≠ 0) : limbs n = n % 4294967296 :: limbs (n / 4294967296) := by rw [limbs, dif_neg h]
theorem lo_limbs (n : Nat) : Lo (limbs n) := by
  induction n using Nat.strongRecOn with
  | _ n ih =>
    by_cases h : n = 0
    · rw [h, limbs_zero]; exact .nil
    · rw [limbs_pos h]
      exact .cons (Nat.mod_lt _ (by decide)) (ih _ (Nat.div_lt_self (Nat.pos_of_ne_zero h) (by decide)))
theorem val_limbs (n : Nat) : val (limbs n) = n := by
  induction n using Nat.strongRecOn with
  | _ n ih =>
    by_cases h : n = 0
    · rw [h, limbs_zero]; rfl
    · rw [limbs_pos h, val_cons, ih _ (Nat.div_lt_self (Nat.pos_of_ne_zero h) (by decide)), B_eq]
      omega
theorem limbs_inj {a b : Nat} (h : limbs a = limbs b) : a = b := by rw [← val_limbs a, ← val_limbs b, h]
theorem limbs_add_mul {x n : Nat} (hx : x < 4294967296) (h : n ≠ 0) : limbs (x + 4294967296 * n) = x :: limbs n := by
  rw [limbs_pos (by omega)]
  have e1 : (x + 4294967296 * n) % 4294967296 = x := by omega
  have e2 : (x + 4294967296 * n) / 4294967296 = n := by omega
  rw [e1, e2]
theorem limbs_one {x : Nat} (hx : x < 4294967296) (h : x ≠ 0) : limbs x = [x] := by
  rw [limbs_pos h]
  have e1 : x % 4294967296 = x := by omega
  have e2 : x / 4294967296 = 0 := by omega
  rw [e1, e2, limbs_zero]
/-- Limbs of which the last one is not 0 are those of their number. -/
theorem limbs_val {xs : List Nat} (h : Lo xs) (k : ∀ hn : xs ≠ [], xs.getLast hn ≠ 0) : limbs (val xs) = xs := by
  induction xs with
  | nil => rw [val_nil, limbs_zero]
  | cons x r ih =>
    rw [val_cons, B_eq]
    by_cases hr : r = []
    · subst hr
      have := k (by simp)
      simp at this
      rw [val_nil, Nat.mul_zero, Nat.add_zero]
      exact limbs_one h.head this
    · have k' : ∀ hn : r ≠ [], r.getLast hn ≠ 0 := fun hn => by
        have := k (by simp)
        rwa [List.getLast_cons hn] at this
      have i := ih h.tail k'
      have nz : val r ≠ 0 := by
        intro e
        rw [e, limbs_zero] at i
        exact hr i.symm
      rw [limbs_add_mul h.head nz, i]
theorem limbs_last (n : Nat) (hn : limbs n ≠ []) : (limbs n).getLast hn ≠ 0 := by
  induction n using Nat.strongRecOn with
  | _ n ih =>
    by_cases h : n = 0
    · subst h; exact absurd limbs_zero hn
    · have e := limbs_pos h
      have : (limbs n).getLast hn = (n % 4294967296 :: limbs (n / 4294967296)).getLast (by simp) := by simp only [e]
      rw [this]
      by_cases h2 : n / 4294967296 = 0
      · have e3 : limbs (n / 4294967296) = [] := by rw [h2, limbs_zero]
        simp only [e3, List.getLast_singleton]
        omega
      · have hne : limbs (n / 4294967296) ≠ [] := by rw [limbs_pos h2]; simp
        rw [List.getLast_cons hne]
        exact ih _ (Nat.div_lt_self (Nat.pos_of_ne_zero h) (by decide)) hne
/-- Noughts at the high end count for nothing. -/
theorem limbs_snoc_zero {xs : List Nat} : limbs (val (xs ++ [0])) = limbs (val xs) := by rw [val_snoc, Nat.mul_zero, Nat.add_zero]

/-- How many limbs. -/
def ln (n : Nat) : Nat := (limbs n).length
theorem ln_zero : ln 0 = 0 := by unfold ln; rw [limbs_zero]; rfl
theorem ln_eq_zero {n : Nat} (h : ln n = 0) : n = 0 := by
  unfold ln at h
  have := List.eq_nil_of_length_eq_zero h
  rw [← val_limbs n, this, val_nil]
theorem ln_pos {n : Nat} (h : n ≠ 0) : 0 < ln n := by
  rcases Nat.eq_zero_or_pos (ln n) with k | k
  · exact absurd (ln_eq_zero k) h
  · exact k
theorem ln_succ {n : Nat} (h : n ≠ 0) : ln n = ln (n / 4294967296) + 1 := by unfold ln; rw [limbs_pos h]; rfl
theorem lt_ln (n : Nat) : n < B ^ ln n := by
  have := val_lt (lo_limbs n)
  rwa [val_limbs] at this
theorem ln_le {n k : Nat} (h : n < B ^ k) : ln n ≤ k := by
  induction k generalizing n with
  | zero =>
    have : n = 0 := by simpa using h
    rw [this, ln_zero]; omega
  | succ k ih =>
    by_cases hz : n = 0
    · rw [hz, ln_zero]; omega
    · rw [ln_succ hz]
      have : n / 4294967296 < B ^ k := by
        rw [Nat.pow_succ, B_eq] at h
        rw [B_eq]
        exact Nat.div_lt_of_lt_mul (by rwa [Nat.mul_comm])
      have := ih this
      omega
theorem le_of_ln {n : Nat} (h : n ≠ 0) : B ^ (ln n - 1) ≤ n := by
  apply Decidable.byContradiction
  intro k
  have := ln_le (show n < B ^ (ln n - 1) by omega)
  have := ln_pos h
  omega
theorem ln_mono {a b : Nat} (h : a ≤ b) : ln a ≤ ln b := ln_le (Nat.lt_of_le_of_lt h (lt_ln b))
theorem ln_val {xs : List Nat} (h : Lo xs) : ln (val xs) ≤ xs.length := ln_le (val_lt h)
theorem limbs_length (n : Nat) : (limbs n).length = ln n := rfl
theorem last_ne_zero {a k : Nat} (hk : k + 1 = (limbs a).length) : (limbs a)[k]'(by omega) ≠ 0 := by
  have hn : limbs a ≠ [] := by intro e; rw [e] at hk; simp at hk
  have := limbs_last a hn
  rw [List.getLast_eq_getElem] at this
  have e : (limbs a).length - 1 = k := by omega
  simpa only [e] using this
theorem val_take_limbs_lt (a k : Nat) : val ((limbs a).take k) < B ^ k := by
  have := val_lt ((lo_limbs a).take k)
  refine Nat.lt_of_lt_of_le this (Nat.pow_le_pow_right B_pos (by simp; omega))
end Go.Proofs.Ythbgbgobfoecoaa
namespace Go.Proofs.Ythbgbgobfoecoaa
open Go.RowKit

theorem cell_lt {w : World} {p : Addr} {v : Value} (h : w.cell? p = some v) : p.block < w.heap.size := by
  apply Decidable.byContradiction
  intro k
  have e : w.heap[p.block]? = none := by simp; omega
  simp [World.cell?, e] at h
theorem keep_cell {W w1 : World} (hb : Below W.heap.size W w1) {p : Addr} {v : Value} (h : W.cell? p = some v) : w1.cell? p = some v := by
  rw [hb.cell (cell_lt h)]; exact h
theorem keep_alloc {w : World} {p : Addr} {v : Value} (h : w.cell? p = some v) (o : Obj) : (w.alloc o).cell? p = some v := keep_cell ((Below.refl _ _).alloc (Nat.le_refl _) o) h
theorem keep_frozen {W w1 : World} (hb : Below W.heap.size W w1) {p : Addr} (hp : p.block < W.heap.size) (h : W.frozen? p = false) : w1.frozen? p = false := by
  rw [hb.frozen hp]; exact h
theorem keep_melt {W w1 : World} {p : Addr} {v : Value} (hb : Below W.heap.size W w1) (hc : W.cell? p = some v) (h : W.frozen? p = false) : w1.frozen? p = false := keep_frozen hb (cell_lt hc) h
theorem keep_set {w : World} {p a : Addr} {v : Value} (h : w.cell? p = some v) (u : Value) (hne : p.block ≠ a.block) : (w.setCell a u).cell? p = some v := by
  rw [World.cell?_of_block (w := w) (Below.heap_setCell w a u p.block hne)]; exact h
theorem below_drewN {B : Nat} {a w : World} (h : Below B a w) (n : Nat) : Below B a (w.drewN n) := ⟨h.os, h.tape, h.output, h.size, h.block⟩
theorem below_step {w a b : World} (h : Below w.heap.size w a) (k : Below a.heap.size a b) : Below w.heap.size w b := h.trans (k.mono h.size)

/-- A limb. -/
abbrev lv (x : Nat) : Value := .int .u32 (x : Int)

/-- The slice at A of length n reads as the limbs xs. -/
structure Lim (w : World) (A : Option Addr) (n c : Nat) (xs : List Nat) : Prop where
  len : xs.length = n
  cap : n ≤ c
  top : c ≤ 9223372036854775807
  at_ : ∀ j (h : j < xs.length), ∃ ad, A = some ad ∧ w.cell? (ad.add j) = some (lv xs[j])
  lo : Lo xs

section
variable {w w' : World} {A : Option Addr} {n c : Nat} {xs : List Nat}
theorem Lim.next (h : Lim w A n c xs) (hb : Below w.heap.size w w') : Lim w' A n c xs :=
  ⟨h.len, h.cap, h.top, fun j hj => by
    obtain ⟨ad, e, hc⟩ := h.at_ j hj
    exact ⟨ad, e, keep_cell hb hc⟩, h.lo⟩
theorem Lim.drewN (h : Lim w A n c xs) (k : Nat) : Lim (w.drewN k) A n c xs := ⟨h.len, h.cap, h.top, h.at_, h.lo⟩
theorem Lim.drew (h : Lim w A n c xs) : Lim w.drew A n c xs := ⟨h.len, h.cap, h.top, h.at_, h.lo⟩
theorem Lim.alloc (h : Lim w A n c xs) (o : Obj) : Lim (w.alloc o) A n c xs := h.next ((Below.refl _ _).alloc (Nat.le_refl _) o)
theorem Lim.none_ (w : World) (A : Option Addr) (c : Nat) (hc : c ≤ 9223372036854775807) : Lim w A 0 c [] := ⟨rfl, Nat.zero_le _, hc, fun j hj => absurd hj (by simp), .nil⟩
theorem Lim.take (h : Lim w A n c xs) {k : Nat} (hk : k ≤ n) : Lim w A k c (xs.take k) :=
  ⟨by have := h.len; simp; omega, Nat.le_trans hk h.cap, h.top, fun j hj => by
    have hj' : j < xs.length := by simp at hj; omega
    obtain ⟨ad, e, hc⟩ := h.at_ j hj'
    exact ⟨ad, e, by simpa using hc⟩, h.lo.take k⟩
theorem Lim.cell {ad : Addr} (h : Lim w (some ad) n c xs) (j : Nat) (hj : j < xs.length) : w.cell? (ad.add j) = some (lv xs[j]) := by
  obtain ⟨ad', e, hc⟩ := h.at_ j hj
  injection e with e
  subst e
  exact hc
theorem Lim.some_ (h : Lim w A n c xs) (hn : 0 < n) : ∃ ad, A = some ad := by
  obtain ⟨ad, e, _⟩ := h.at_ 0 (by have := h.len; omega)
  exact ⟨ad, e⟩
end

/-- What a call answers that makes a natural. -/
def RetN (r : Nat) (w : World) (e : Ending) (w' : World) : Prop := ∃ A n c, e = .returned (.slice A n c) ∧ Lim w' A n c (limbs r) ∧ Below w.heap.size w w'
/-- .. and an error. -/
def RetE (r : Nat) (k : Int) (w : World) (e : Ending) (w' : World) : Prop := ∃ A n c, e = .returned (.tuple #[.slice A n c, .int .i64 k]) ∧ Lim w' A n c (limbs r) ∧ Below w.heap.size w w'
end Go.Proofs.Ythbgbgobfoecoaa
