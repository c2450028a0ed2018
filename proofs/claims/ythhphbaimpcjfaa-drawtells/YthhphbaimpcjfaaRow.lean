/- Blocks of limbs that a call has made, and writes into. -/
import Derived.Test.YthhphbaimpcjfaaWalkC
import Derived.Laws.OwnMore
import Derived.OwnWalk
namespace Go.Proofs.Ythhphbaimpcjfaa
open Go.RowKit

theorem add_lit (g o i : Nat) : (⟨g, o, none⟩ : Addr).add i = ⟨g, o + i, none⟩ := by
  unfold Addr.add
  by_cases h : i = 0
  · subst h; rfl
  · rw [if_neg h]
theorem block_add (a : Addr) (n : Nat) : (a.add n).block = a.block := by unfold Addr.add; split <;> rfl

/-- Block g is just the limbs xs. -/
structure Row (w : World) (g : Nat) (xs : List Nat) : Prop where
  blk : w.heap[g]? = some (.cells (xs.map lv).toArray 48 (0, 0))
  lo : Lo xs

section
variable {w w' : World} {g : Nat} {xs : List Nat}
theorem Row.lt (h : Row w g xs) : g < w.heap.size := (Array.getElem?_eq_some_iff.1 h.blk).1
theorem Row.cell (h : Row w g xs) (i : Nat) (hi : i < xs.length) : w.cell? ⟨g, i, none⟩ = some (lv xs[i]) := by
  have := h.blk
  simp [World.cell?, this, hi]
theorem Row.cell' (h : Row w g xs) {i x : Nat} (hi : xs[i]? = some x) : w.cell? ⟨g, i, none⟩ = some (lv x) := by
  obtain ⟨a, b⟩ := List.getElem?_eq_some_iff.1 hi
  rw [h.cell i a, b]
theorem Row.melt (h : Row w g xs) (i : Nat) : w.frozen? ⟨g, i, none⟩ = false := by
  have := h.blk
  simp [World.frozen?, this]
theorem Row.drew (h : Row w g xs) : Row w.drew g xs := ⟨h.blk, h.lo⟩
theorem Row.drewN (h : Row w g xs) (n : Nat) : Row (w.drewN n) g xs := ⟨h.blk, h.lo⟩
theorem Row.alloc (h : Row w g xs) (o : Obj) : Row (w.alloc o) g xs := ⟨(Below.heap_alloc w o g h.lt).trans h.blk, h.lo⟩
theorem Row.next (h : Row w g xs) (hb : Below w.heap.size w w') : Row w' g xs := ⟨(hb.block g h.lt).trans h.blk, h.lo⟩
theorem Row.far (h : Row w g xs) {p : Addr} (hp : g ≠ p.block) (u : Value) : Row (w.setCell p u) g xs := ⟨(Below.heap_setCell w p u g hp).trans h.blk, h.lo⟩
theorem Row.set_ (h : Row w g xs) (i v : Nat) (hv : v < 4294967296) : Row (w.setCell ⟨g, i, none⟩ (lv v)) g (xs.set i v) := by
  refine ⟨?_, fun y hy => ?_⟩
  · have := h.blk
    simp [World.setCell, Array.getElem?_modify, this]
  · rcases List.mem_or_eq_of_mem_set hy with k | k
    · exact h.lo y k
    · rw [k]; exact hv
theorem Row.new (w : World) (xs : List Nat) (h : Lo xs) : Row (w.alloc (.cells (xs.map lv).toArray 48)) w.heap.size xs := ⟨heap_alloc_new w _, h⟩
/-- A piece of a block is a slice. -/
theorem Row.lim (h : Row w g xs) {o n c : Nat} (ho : o + n ≤ xs.length) (hc : n ≤ c) (ht : c ≤ 9223372036854775807) : Lim w (some ⟨g, o, none⟩) n c ((xs.drop o).take n) := by
  refine ⟨by simp; omega, hc, ht, fun j hj => ⟨_, rfl, ?_⟩, (h.lo.drop o).take n⟩
  rw [add_lit]
  have hj' : o + j < xs.length := by simp at hj; omega
  rw [h.cell _ hj']
  simp
end

/-- But for block g all is as it was. -/
structure Turn (w w' : World) (g : Nat) : Prop where
  os : w'.os = w.os
  tape : w'.tape = w.tape
  output : w'.output = w.output
  size : w'.heap.size = w.heap.size
  block : ∀ k, k ≠ g → w'.heap[k]? = w.heap[k]?
section
variable {w w' w'' : World} {g : Nat}
theorem Turn.refl (w : World) (g : Nat) : Turn w w g := ⟨rfl, rfl, rfl, rfl, fun _ _ => rfl⟩
theorem Turn.trans (h : Turn w w' g) (k : Turn w' w'' g) : Turn w w'' g := ⟨k.os.trans h.os, k.tape.trans h.tape, k.output.trans h.output, k.size.trans h.size, fun i hi => (k.block i hi).trans (h.block i hi)⟩
theorem Turn.drew (h : Turn w w' g) : Turn w w'.drew g := ⟨h.os, h.tape, h.output, h.size, h.block⟩
theorem Turn.drewN (h : Turn w w' g) (n : Nat) : Turn w (w'.drewN n) g := ⟨h.os, h.tape, h.output, h.size, h.block⟩
theorem Turn.setCell (h : Turn w w' g) (i : Nat) (u : Value) : Turn w (w'.setCell ⟨g, i, none⟩ u) g :=
  h.trans ⟨rfl, rfl, rfl, by simp [World.setCell], fun k hk => Below.heap_setCell _ _ _ _ hk⟩
theorem Turn.below (h : Turn w w' g) {B : Nat} (hg : B ≤ g) : Below B w w' := ⟨h.os, h.tape, h.output, Nat.le_of_eq h.size.symm, fun k hk => h.block k (by omega)⟩
theorem Turn.lim (h : Turn w w' g) {A : Option Addr} {n c : Nat} {xs : List Nat} (l : Lim w A n c xs) (hne : ∀ ad, A = some ad → ad.block ≠ g) : Lim w' A n c xs :=
  ⟨l.len, l.cap, l.top, fun j hj => by
    obtain ⟨ad, e, hc⟩ := l.at_ j hj
    refine ⟨ad, e, ?_⟩
    rw [World.cell?_of_block (w := w) (h.block _ (by rw [block_add]; exact hne ad e))]
    exact hc, l.lo⟩
theorem Turn.row (h : Turn w w' g) {g' : Nat} {xs : List Nat} (l : Row w g' xs) (hne : g' ≠ g) : Row w' g' xs := ⟨(h.block _ hne).trans l.blk, l.lo⟩
end
/-- What a slice lies in was there. -/
theorem Lim.ne {w : World} {A : Option Addr} {n c : Nat} {xs : List Nat} (l : Lim w A n c xs) (hn : 0 < n) {g : Nat} (hg : w.heap.size ≤ g) : ∀ ad, A = some ad → ad.block ≠ g := by
  intro ad e
  obtain ⟨ad', e', hc⟩ := l.at_ 0 (by have := l.len; omega)
  have := cell_lt hc
  rw [block_add] at this
  rw [e] at e'
  injection e' with e'
  subst e'
  omega

theorem lo_zeros (n : Nat) : Lo (List.replicate n 0) := fun y hy => by rw [(List.mem_replicate.1 hy).2]; decide
/-- A slice that was there lies in no new block. -/
theorem Lim.new_ne {w : World} {A : Option Addr} {n c : Nat} {xs : List Nat} (l : Lim w A n c xs) : ∀ ad, A = some ad → 0 < n → ad.block ≠ w.heap.size := fun ad e hn => l.ne hn (Nat.le_refl _) ad e
/-- Limbs that are not there lie nowhere. -/
theorem turn_lim {w w' : World} {g : Nat} (t : Turn w w' g) {A : Option Addr} {n c : Nat} {xs : List Nat} (l : Lim w A n c xs) (hne : ∀ ad, A = some ad → 0 < n → ad.block ≠ g) : Lim w' A n c xs := by
  by_cases hn : 0 < n
  · exact t.lim l (fun ad e => hne ad e hn)
  · have h0 := l.len
    exact ⟨l.len, l.cap, l.top, fun j hj => by omega, l.lo⟩

/-- The elements' type. -/
theorem info_u32 : (Try.prog.info? 48).map (fun i => (i.zero, i.size, i.bytes)) = some (some (.int .u32 0), 1, 4) := by kernel_rfl
/-- A block of noughts. -/
@[irreducible] def zrow (n : Nat) : Obj := .cells ((List.replicate n 0).map lv).toArray 48
theorem Row.zeros (w : World) (n : Nat) : Row (w.alloc (zrow n)) w.heap.size (List.replicate n 0) := by unfold zrow; exact Row.new w _ (lo_zeros n)
/-- A new block of noughts. -/
theorem make_u32 (n : Nat) (hn : n ≤ 1000000000000) (w : World) : (Instr.makeSlice 25 (.int .i64 (n : Int)) (.int .i64 (n : Int))).run Try.prog w =
    .ok (.slice (some ⟨w.heap.size, 0, none⟩) n n) (w.alloc (zrow n)) := by
  unfold zrow
  obtain ⟨i, hi, hz, hs, hb⟩ := info_parts info_u32
  have hbytes : (i.bytes : Int) * (n : Int) ≤ 281474976710656 := by rw [hb]; omega
  have hr := run_make (P := Try.prog) w 25 48 i (.int .u32 0) Try.underlying25 hi hz .i64 .i64 n n (by omega) (by omega) hbytes (by omega)
  simp only [Int.toNat_natCast] at hr
  have e : madeCells (Value.int IntKind.u32 0).cells n = ((List.replicate n 0).map lv).toArray := by
    apply Array.ext'
    rw [show (Value.int IntKind.u32 0).cells = #[.int .u32 0] from rfl, toList_madeCells_one]
    simp
  rw [hr, hs, Nat.mul_one, e]

/-- What a loop has written, limb by limb. -/
theorem set_mid (p ss r : List Nat) (v o i : Nat) (ho : p.length = o) (hs : ss.length = i) (x : Nat) : (p ++ ss ++ (x :: r)).set (o + i) v = p ++ (ss ++ [v]) ++ r := by
  subst ho hs
  rw [List.append_assoc, List.set_append_right _ _ (by omega), Nat.add_sub_cancel_left, List.set_append_right _ _ (by omega), Nat.sub_self, List.set_cons_zero]
  simp
theorem set_part (zs ss : List Nat) (v o i : Nat) (hz : o + i < zs.length) (hs : ss.length = i) : (zs.take o ++ ss ++ zs.drop (o + i)).set (o + i) v = zs.take o ++ (ss ++ [v]) ++ zs.drop (o + (i + 1)) := by
  rw [List.drop_eq_getElem_cons hz, set_mid _ _ _ _ o i (by simp; omega) hs]
  rfl
theorem part_len (zs ss : List Nat) (o i : Nat) (hz : o + i ≤ zs.length) (hs : ss.length = i) : (zs.take o ++ ss ++ zs.drop (o + i)).length = zs.length := by simp; omega
theorem part_at (zs ss : List Nat) (o i : Nat) (hz : o + i < zs.length) (hs : ss.length = i) : (zs.take o ++ ss ++ zs.drop (o + i))[o + i]? = some zs[o + i] := by
  rw [List.getElem?_append_right (by simp; omega), List.length_append, hs, List.length_take, Nat.min_eq_left (by omega), Nat.sub_self, List.getElem?_drop, Nat.add_zero, List.getElem?_eq_getElem hz]
end Go.Proofs.Ythhphbaimpcjfaa
