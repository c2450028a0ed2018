/- The walks of Add32, Sub32, Div32, Bits, fitting. Blocks of limbs that a call has made, and writes into. The walk of addInto. The walks of sum, Add. The walks of difference, Sub. -/
import Derived.Test.YtdnikdocfbbkkaaDoorJ00
import Derived.Laws.OwnMore
import Derived.OwnWalk
namespace Go.Proofs.YtdnikdocfbbkkaaDoor
open Go.RowKit
theorem pair_eq {k : IntKind} {a b c d : Int} (h1 : a = c) (h2 : b = d) : Ending.returned (.tuple #[.int k a, .int k b]) = .returned (.tuple #[.int k c, .int k d]) := by rw [h1, h2]
theorem int_eq {k : IntKind} {a b : Int} (h : a = b) : Ending.returned (.int k a) = .returned (.int k b) := by rw [h]
set_option maxRecDepth 100000 in
theorem add32 (x y c : Nat) (hx : x < 4294967296) (hy : y < 4294967296) (hc : c ≤ 1) (w : World) : Calls Tryd.prog 134 #[lv x, lv y, lv c] w fun e w' =>
    e = .returned (.tuple #[lv ((x + y + c) % 4294967296), lv ((x + y + c) / 4294967296)]) ∧ w = w' := by
  go_enter Tryd.func134, Tryd.ntmps134
  go_wp2
  go_ret2
  exact ⟨pair_eq (by omega) (by omega), rfl⟩
set_option maxRecDepth 100000 in
theorem sub32 (x y c : Nat) (hx : x < 4294967296) (hy : y < 4294967296) (hc : c ≤ 1) (w : World) : Calls Tryd.prog 130 #[lv x, lv y, lv c] w fun e w' =>
    e = .returned (.tuple #[lv ((x + 8589934592 - y - c) % 4294967296), lv (bor x (y + c))]) ∧ w = w' := by
  obtain ⟨d, hd⟩ : ∃ d, d = (x + 4294967296 + 4294967296 - y - c) % 4294967296 := ⟨_, rfl⟩
  have hd' : d < 4294967296 := by rw [hd]; exact Nat.mod_lt _ (by decide)
  have E0 : Hid (((x : Int) - y - c) % 4294967296 = (d : Int)) := by unfold Hid; omega
  have H := Lib.hid (borrow_top x y c d hx hy hc hd)
  have HD := Lib.hid hd
  have E1 : Hid (bits BinOp.or IntKind.u32 (bits BinOp.and IntKind.u32 (bits BinOp.xor IntKind.u32 IntKind.u32.max (x : Int)) (y : Int)) (bits BinOp.and IntKind.u32 (bits BinOp.xor IntKind.u32 IntKind.u32.max (bits BinOp.xor IntKind.u32 (x : Int) (y : Int))) ((d : Nat) : Int)) / 2147483648 = (bor x (y + c) : Int)) := by
    unfold Hid
    have l0 : 4294967295 ^^^ x < 2 ^ 32 := Nat.xor_lt_two_pow (by decide) (by omega)
    have l1 : (4294967295 ^^^ x) &&& y < 2 ^ 32 := Nat.and_lt_two_pow _ (by omega)
    have l3 : x ^^^ y < 2 ^ 32 := Nat.xor_lt_two_pow (by omega) (by omega)
    have l4 : 4294967295 ^^^ (x ^^^ y) < 2 ^ 32 := Nat.xor_lt_two_pow (by decide) l3
    have l2 : (4294967295 ^^^ (x ^^^ y)) &&& d < 2 ^ 32 := Nat.and_lt_two_pow _ (by omega)
    rw [u32_max, u32_xor_nat 4294967295 x (by decide) hx, u32_xor_nat x y hx hy, u32_xor_nat 4294967295 (x ^^^ y) (by decide) l3, u32_and_nat _ y l0 hy, u32_and_nat _ d l4 hd', u32_or_nat _ _ l1 l2, ← H.out]
    omega
  clear hd H
  go_enter Tryd.func130, Tryd.ntmps130
  go_wp2
  go_ret2
  refine ⟨pair_eq ?_ ?_, rfl⟩
  · rw [E0.out]; have := HD.out; omega
  · rw [E0.out, E1.out]
set_option maxRecDepth 100000 in
theorem div32 (x y c : Nat) (hx : x < c) (hy : y < 4294967296) (hc : c < 4294967296) (w : World) : Calls Tryd.prog 113 #[lv x, lv y, lv c] w fun e w' =>
    e = .returned (.tuple #[lv ((x * 4294967296 + y) / c), lv ((x * 4294967296 + y) % c)]) ∧ ∃ m, w' = w.drewN m := by
  have h1 : ((c : Int) != 0) = true := by simp; omega
  have h2 : ¬ (c : Int) ≤ x := by omega
  have e1 := Lib.hid (u64_or_up x y (by omega) hy)
  have k1 : (x * 4294967296 + y) / c < 4294967296 := by
    rw [Nat.div_lt_iff_lt_mul (by omega)]
    have : (x + 1) * 4294967296 ≤ c * 4294967296 := Nat.mul_le_mul_right _ hx
    rw [Nat.mul_comm c] at this
    omega
  have k2 : (x * 4294967296 + y) % c < c := Nat.mod_lt _ (by omega)
  have e2 : ((x * 4294967296 + y : Nat) : Int) = (x : Int) * 4294967296 + (y : Int) := by omega
  have E3 : Hid ((IntKind.u64.wrap ((bits BinOp.or IntKind.u64 ((x : Int) * 4294967296) (y : Int)).tdiv (c : Int)) % 4294967296) = (((x * 4294967296 + y) / c : Nat) : Int)) := by
    unfold Hid
    rw [e1.out, ← e2, ← Int.ofNat_tdiv, IntKind.wrap_u64]
    generalize (x * 4294967296 + y) / c = q at *
    omega
  have E4 : Hid ((bits BinOp.or IntKind.u64 ((x : Int) * 4294967296) (y : Int)).tmod (c : Int) % 4294967296 = (((x * 4294967296 + y) % c : Nat) : Int)) := by
    unfold Hid
    rw [e1.out, ← e2, ← Int.ofNat_tmod]
    generalize (x * 4294967296 + y) % c = q at *
    omega
  clear e2 k1 k2
  go_enter Tryd.func113, Tryd.ntmps113
  go_wp2
  go_quiet (fail)
  go_wp2
  go_ret2
  exact ⟨pair_eq E3.out E4.out, _, rfl⟩

set_option maxRecDepth 100000 in
theorem bits_any {A : Option Addr} {n c a : Nat} {w : World} (ha : Lim w A n c (limbs a)) (la : ln a ≤ 64) : Calls Tryd.prog 30 #[.slice A n c] w fun e w' => e = .returned (.int .i64 (bl a)) ∧ w = w' := by
  have RA := Lib.hid (right_yes ha la)
  have hl := ha.len
  rw [limbs_length] at hl
  by_cases hz : n = 0
  · subst hz
    have e := ln_eq_zero hl
    subst e
    have E := Lib.hid bl_zero
    clear ha hl la
    go_enter Tryd.func30, Tryd.ntmps30
    go_wp2_with fail
    refine RA.out.mono ?_
    rintro e w' ⟨rfl, rfl⟩
    go_wp2_with fail
    go_ret
    exact ⟨by rw [E.out]; rfl, rfl⟩
  · obtain ⟨k, rfl⟩ : ∃ k, n = k + 1 := ⟨n - 1, by omega⟩
    obtain ⟨ad, rfl⟩ := ha.some_ (by omega)
    have hk : k < (limbs a).length := by rw [limbs_length]; omega
    have hc := ha.cell k hk
    have E := Lib.hid (bl_limbs (a := a) (k := k) (by rw [limbs_length]; omega))
    have hx := ha.lo.at_ k hk
    have hb := bl_le (n := (limbs a)[k]) (k := 32) (by omega)
    have KL := Lib.hid (Tryd.bits_Len32 ((limbs a)[k] : Int))
    have EB : Hid ((Lib.bitLen ((limbs a)[k] : Int).toNat : Int) = (bl ((limbs a)[k]) : Int)) := by unfold Hid; rw [Int.toNat_natCast, bitLen_bl _ (by omega)]
    generalize (limbs a)[k] = x at *
    have h1 : (((k + 1 : Nat) : Int) == 0) = false := by simp; omega
    have k64 : k < 64 := by omega
    clear ha hl la hk
    go_enter Tryd.func30, Tryd.ntmps30
    go_wp2_with fail
    refine RA.out.mono ?_
    rintro e w' ⟨rfl, rfl⟩
    go_wp2_with fail
    refine (KL.out _ (by omega) (by omega)).mono ?_
    rintro e w' ⟨rfl, rfl⟩
    rw [EB.out]
    go_wp2_with fail
    go_ret
    exact ⟨int_eq (by rw [E.out]; omega), rfl⟩

set_option maxRecDepth 100000 in
theorem bits_none {A : Option Addr} {n c : Nat} {xs : List Nat} {w : World} (ha : Lim w A n c xs) (h : ¬ Nt xs) : Calls Tryd.prog 30 #[.slice A n c] w fun e w' => e = .returned (.int .i64 0) ∧ w = w' := by
  have RA := Lib.hid (right_no ha h)
  clear ha h
  go_enter Tryd.func30, Tryd.ntmps30
  go_wp2_with fail
  refine RA.out.mono ?_
  rintro e w' ⟨rfl, rfl⟩
  go_wp2_with fail
  go_ret
  exact ⟨rfl, rfl⟩

/-- The number, if it has at most 64 limbs; else 0. -/
@[irreducible] def fitN (r : Nat) : Nat := if ln r ≤ 64 then r else 0
/-- OK or ErrBig. -/
@[irreducible] def fitE (r : Nat) : Int := if ln r ≤ 64 then 0 else 6
theorem fitN_yes {r : Nat} (h : ln r ≤ 64) : fitN r = r := by unfold fitN; rw [if_pos h]
theorem fitN_no {r : Nat} (h : ¬ ln r ≤ 64) : fitN r = 0 := by unfold fitN; rw [if_neg h]
theorem fitE_yes {r : Nat} (h : ln r ≤ 64) : fitE r = 0 := by unfold fitE; rw [if_pos h]
theorem fitE_no {r : Nat} (h : ¬ ln r ≤ 64) : fitE r = 6 := by unfold fitE; rw [if_neg h]
theorem lim_zero (w : World) (A : Option Addr) (c : Nat) (hc : c ≤ 9223372036854775807) : Lim w A 0 c (limbs 0) := by rw [limbs_zero]; exact Lim.none_ w A c hc
set_option maxRecDepth 100000 in
theorem fitting_any {A : Option Addr} {n c r : Nat} {w : World} (h : Lim w A n c (limbs r)) : Calls Tryd.prog 77 #[.slice A n c] w fun e w' => RetE (fitN r) (fitE r) w e w' := by
  have hl := h.len
  rw [limbs_length] at hl
  by_cases k : ln r ≤ 64
  · rw [fitN_yes k, fitE_yes k]
    have h1 : (n : Int) ≤ 64 := by omega
    have H := Lib.hid h
    clear h hl k
    go_enter Tryd.func77, Tryd.ntmps77
    go_wp2
    go_ret2
    exact ⟨_, _, _, rfl, H.out, Below.refl _ _⟩
  · rw [fitN_no k, fitE_no k]
    have h1 : ¬ (n : Int) ≤ 64 := by omega
    clear h hl k
    go_enter Tryd.func77, Tryd.ntmps77
    go_wp2
    go_ret2
    exact ⟨_, _, _, rfl, lim_zero _ _ _ (by omega), Below.refl _ _⟩
end Go.Proofs.YtdnikdocfbbkkaaDoor
namespace Go.Proofs.YtdnikdocfbbkkaaDoor
open Go.RowKit

theorem add_lit (g o i : Nat) : (⟨g, o, none⟩ : Addr).add i = ⟨g, o + i, none⟩ := by
  unfold Addr.add
  by_cases h : i = 0
  · subst h; rfl
  · rw [if_neg h]
theorem block_add (a : Addr) (n : Nat) : (a.add n).block = a.block := by unfold Addr.add; split <;> rfl

/-- Block g is just the limbs xs. -/
structure Row (w : World) (g : Nat) (xs : List Nat) : Prop where
  blk : w.heap[g]? = some (.cells (xs.map lv).toArray 37 (0, 0))
  lo : Lo xs

section
variable {w w' : World} {g : Nat} {xs : List Nat}
theorem Row.lt (h : Row w g xs) : g < w.heap.size := (Array.getElem?_eq_some_iff.1 h.blk).1
theorem Row.cell (h : Row w g xs) (i : Nat) (hi : i < xs.length) : w.cell? ⟨g, i, none⟩ = some (lv xs[i]) := by
  have := h.blk
  simp [World.cell?, this, hi]
theorem Row.cell' (h : Row w g xs) {i x : Nat} (hi : xs[i]? = some x) : w.cell? ⟨g, i, none⟩ = some (lv x) := by
  obtain ⟨a, b⟩ := List.getElem?_eq_some_iff.1 hi
  rw [h.cell i a, b]
theorem Row.melt (h : Row w g xs) (i : Nat) : w.frozen? ⟨g, i, none⟩ = false := by
  have := h.blk
  simp [World.frozen?, this]
theorem Row.drew (h : Row w g xs) : Row w.drew g xs := ⟨h.blk, h.lo⟩
theorem Row.drewN (h : Row w g xs) (n : Nat) : Row (w.drewN n) g xs := ⟨h.blk, h.lo⟩
theorem Row.alloc (h : Row w g xs) (o : Obj) : Row (w.alloc o) g xs := ⟨(Below.heap_alloc w o g h.lt).trans h.blk, h.lo⟩
theorem Row.next (h : Row w g xs) (hb : Below w.heap.size w w') : Row w' g xs := ⟨(hb.block g h.lt).trans h.blk, h.lo⟩
theorem Row.far (h : Row w g xs) {p : Addr} (hp : g ≠ p.block) (u : Value) : Row (w.setCell p u) g xs := ⟨(Below.heap_setCell w p u g hp).trans h.blk, h.lo⟩
theorem Row.set_ (h : Row w g xs) (i v : Nat) (hv : v < 4294967296) : Row (w.setCell ⟨g, i, none⟩ (lv v)) g (xs.set i v) := by
  refine ⟨?_, fun y hy => ?_⟩
  · have := h.blk
    simp [World.setCell, Array.getElem?_modify, this]
  · rcases List.mem_or_eq_of_mem_set hy with k | k
    · exact h.lo y k
    · rw [k]; exact hv
theorem Row.new (w : World) (xs : List Nat) (h : Lo xs) : Row (w.alloc (.cells (xs.map lv).toArray 37)) w.heap.size xs := ⟨heap_alloc_new w _, h⟩
/-- A piece of a block is a slice. -/
theorem Row.lim (h : Row w g xs) {o n c : Nat} (ho : o + n ≤ xs.length) (hc : n ≤ c) (ht : c ≤ 9223372036854775807) : Lim w (some ⟨g, o, none⟩) n c ((xs.drop o).take n) := by
  refine ⟨by simp; omega, hc, ht, fun j hj => ⟨_, rfl, ?_⟩, (h.lo.drop o).take n⟩
  rw [add_lit]
  have hj' : o + j < xs.length := by simp at hj; omega
  rw [h.cell _ hj']
  simp
end

/-- But for block g all is as it was. -/
structure Turn (w w' : World) (g : Nat) : Prop where
  os : w'.os = w.os
  tape : w'.tape = w.tape
  output : w'.output = w.output
  size : w'.heap.size = w.heap.size
  block : ∀ k, k ≠ g → w'.heap[k]? = w.heap[k]?
section
variable {w w' w'' : World} {g : Nat}
theorem Turn.refl (w : World) (g : Nat) : Turn w w g := ⟨rfl, rfl, rfl, rfl, fun _ _ => rfl⟩
theorem Turn.trans (h : Turn w w' g) (k : Turn w' w'' g) : Turn w w'' g := ⟨k.os.trans h.os, k.tape.trans h.tape, k.output.trans h.output, k.size.trans h.size, fun i hi => (k.block i hi).trans (h.block i hi)⟩
theorem Turn.drew (h : Turn w w' g) : Turn w w'.drew g := ⟨h.os, h.tape, h.output, h.size, h.block⟩
theorem Turn.drewN (h : Turn w w' g) (n : Nat) : Turn w (w'.drewN n) g := ⟨h.os, h.tape, h.output, h.size, h.block⟩
theorem Turn.setCell (h : Turn w w' g) (i : Nat) (u : Value) : Turn w (w'.setCell ⟨g, i, none⟩ u) g :=
  h.trans ⟨rfl, rfl, rfl, by simp [World.setCell], fun k hk => Below.heap_setCell _ _ _ _ hk⟩
theorem Turn.below (h : Turn w w' g) {B : Nat} (hg : B ≤ g) : Below B w w' := ⟨h.os, h.tape, h.output, Nat.le_of_eq h.size.symm, fun k hk => h.block k (by omega)⟩
theorem Turn.lim (h : Turn w w' g) {A : Option Addr} {n c : Nat} {xs : List Nat} (l : Lim w A n c xs) (hne : ∀ ad, A = some ad → ad.block ≠ g) : Lim w' A n c xs :=
  ⟨l.len, l.cap, l.top, fun j hj => by
    obtain ⟨ad, e, hc⟩ := l.at_ j hj
    refine ⟨ad, e, ?_⟩
    rw [World.cell?_of_block (w := w) (h.block _ (by rw [block_add]; exact hne ad e))]
    exact hc, l.lo⟩
theorem Turn.row (h : Turn w w' g) {g' : Nat} {xs : List Nat} (l : Row w g' xs) (hne : g' ≠ g) : Row w' g' xs := ⟨(h.block _ hne).trans l.blk, l.lo⟩
end
/-- What a slice lies in was there. -/
theorem Lim.ne {w : World} {A : Option Addr} {n c : Nat} {xs : List Nat} (l : Lim w A n c xs) (hn : 0 < n) {g : Nat} (hg : w.heap.size ≤ g) : ∀ ad, A = some ad → ad.block ≠ g := by
  intro ad e
  obtain ⟨ad', e', hc⟩ := l.at_ 0 (by have := l.len; omega)
  have := cell_lt hc
  rw [block_add] at this
  rw [e] at e'
  injection e' with e'
  subst e'
  omega

theorem lo_zeros (n : Nat) : Lo (List.replicate n 0) := fun y hy => by rw [(List.mem_replicate.1 hy).2]; decide
/-- A slice that was there lies in no new block. -/
theorem Lim.new_ne {w : World} {A : Option Addr} {n c : Nat} {xs : List Nat} (l : Lim w A n c xs) : ∀ ad, A = some ad → 0 < n → ad.block ≠ w.heap.size := fun ad e hn => l.ne hn (Nat.le_refl _) ad e
/-- Limbs that are not there lie nowhere. -/
theorem turn_lim {w w' : World} {g : Nat} (t : Turn w w' g) {A : Option Addr} {n c : Nat} {xs : List Nat} (l : Lim w A n c xs) (hne : ∀ ad, A = some ad → 0 < n → ad.block ≠ g) : Lim w' A n c xs := by
  by_cases hn : 0 < n
  · exact t.lim l (fun ad e => hne ad e hn)
  · have h0 := l.len
    exact ⟨l.len, l.cap, l.top, fun j hj => by omega, l.lo⟩

/-- The elements' type. -/
theorem info_u32 : (Tryd.prog.info? 37).map (fun i => (i.zero, i.size, i.bytes)) = some (some (.int .u32 0), 1, 4) := by kernel_rfl
/-- A block of noughts. -/
@[irreducible] def zrow (n : Nat) : Obj := .cells ((List.replicate n 0).map lv).toArray 37
theorem Row.zeros (w : World) (n : Nat) : Row (w.alloc (zrow n)) w.heap.size (List.replicate n 0) := by unfold zrow; exact Row.new w _ (lo_zeros n)
/-- A new block of noughts. -/
theorem make_u32 (n : Nat) (hn : n ≤ 1000000000000) (w : World) : (Instr.makeSlice 23 (.int .i64 (n : Int)) (.int .i64 (n : Int))).run Tryd.prog w =
    .ok (.slice (some ⟨w.heap.size, 0, none⟩) n n) (w.alloc (zrow n)) := by
  unfold zrow
  obtain ⟨i, hi, hz, hs, hb⟩ := info_parts info_u32
  have hbytes : (i.bytes : Int) * (n : Int) ≤ 281474976710656 := by rw [hb]; omega
  have hr := run_make (P := Tryd.prog) w 23 37 i (.int .u32 0) Tryd.underlying23 hi hz .i64 .i64 n n (by omega) (by omega) hbytes (by omega)
  simp only [Int.toNat_natCast] at hr
  have e : madeCells (Value.int IntKind.u32 0).cells n = ((List.replicate n 0).map lv).toArray := by
    apply Array.ext'
    rw [show (Value.int IntKind.u32 0).cells = #[.int .u32 0] from rfl, toList_madeCells_one]
    simp
  rw [hr, hs, Nat.mul_one, e]

/-- What a loop has written, limb by limb. -/
theorem set_mid (p ss r : List Nat) (v o i : Nat) (ho : p.length = o) (hs : ss.length = i) (x : Nat) : (p ++ ss ++ (x :: r)).set (o + i) v = p ++ (ss ++ [v]) ++ r := by
  subst ho hs
  rw [List.append_assoc, List.set_append_right _ _ (by omega), Nat.add_sub_cancel_left, List.set_append_right _ _ (by omega), Nat.sub_self, List.set_cons_zero]
  simp
theorem set_part (zs ss : List Nat) (v o i : Nat) (hz : o + i < zs.length) (hs : ss.length = i) : (zs.take o ++ ss ++ zs.drop (o + i)).set (o + i) v = zs.take o ++ (ss ++ [v]) ++ zs.drop (o + (i + 1)) := by
  rw [List.drop_eq_getElem_cons hz, set_mid _ _ _ _ o i (by simp; omega) hs]
  rfl
theorem part_len (zs ss : List Nat) (o i : Nat) (hz : o + i ≤ zs.length) (hs : ss.length = i) : (zs.take o ++ ss ++ zs.drop (o + i)).length = zs.length := by simp; omega
theorem part_at (zs ss : List Nat) (o i : Nat) (hz : o + i < zs.length) (hs : ss.length = i) : (zs.take o ++ ss ++ zs.drop (o + i))[o + i]? = some zs[o + i] := by
  rw [List.getElem?_append_right (by simp; omega), List.length_append, hs, List.length_take, Nat.min_eq_left (by omega), Nat.sub_self, List.getElem?_drop, Nat.add_zero, List.getElem?_eq_getElem hz]
end Go.Proofs.YtdnikdocfbbkkaaDoor
namespace Go.Proofs.YtdnikdocfbbkkaaDoor
open Go.RowKit

/-- The limbs of a slice can be read, each, while those ahead of it are written over at o in block g. -/
def Src (w : World) (g o : Nat) (zs : List Nat) (A : Option Addr) (xs : List Nat) : Prop :=
  ∀ (i : Nat) (h : i < xs.length) (ss : List Nat) (W : World), ss.length = i → Turn w W g → Row W g (zs.take o ++ ss ++ zs.drop (o + i)) → ∃ ad, A = some ad ∧ W.cell? (ad.add i) = some (lv xs[i])
theorem Src.far {w : World} {g o : Nat} {zs : List Nat} {A : Option Addr} {n c : Nat} {xs : List Nat} (l : Lim w A n c xs) (hne : ∀ ad, A = some ad → ad.block ≠ g) : Src w g o zs A xs :=
  fun i h _ _ _ t _ => (t.lim l hne).at_ i h
theorem Src.same {w : World} {g o n : Nat} {zs : List Nat} (hz : o + n ≤ zs.length) : Src w g o zs (some ⟨g, o, none⟩) ((zs.drop o).take n) := by
  intro i h ss W hs _ r
  refine ⟨_, rfl, ?_⟩
  rw [add_lit]
  have h' : o + i < zs.length := by simp at h; omega
  rw [r.cell' (part_at zs ss o i h' hs)]
  simp

/-- What is in the loops of addInto. -/
structure Sum (w : World) (g o : Nat) (zs xs ys : List Nat) (i k : Nat) (wr : World) : Prop where
  ss : ∃ ss, ss.length = i ∧ Lo ss ∧ val ss + B ^ i * k = val (xs.take i) + val (ys.take i) ∧ Row wr g (zs.take o ++ ss ++ zs.drop (o + i))
  k1 : k ≤ 1
  t : Turn w wr g

theorem Sum.drew {w : World} {g o : Nat} {zs xs ys : List Nat} {i k : Nat} {wr : World} (h : Sum w g o zs xs ys i k wr) : Sum w g o zs xs ys i k wr.drew := by
  obtain ⟨ss, a, b, c, r⟩ := h.ss
  exact ⟨⟨ss, a, b, c, r.drew⟩, h.k1, h.t.drew⟩
theorem u32_mod (x y k : Nat) : Value.int IntKind.u32 (((x : Int) + (y : Int) + (k : Int)) % 4294967296) = lv ((x + y + k) % 4294967296) := congrArg (Value.int .u32) (by omega)
theorem u32_mod2 (x k : Nat) : Value.int IntKind.u32 (((x : Int) + (k : Int)) % 4294967296) = lv ((x + k) % 4294967296) := congrArg (Value.int .u32) (by omega)
theorem sum_step {P s x y k v c : Nat} (h : v + P * k = s) (e : x + y + k = c) : v + P * (c % 4294967296) + P * 4294967296 * (c / 4294967296) = s + P * x + P * y := by
  have e2 : c = c % 4294967296 + 4294967296 * (c / 4294967296) := by omega
  have : P * c = P * (c % 4294967296) + P * 4294967296 * (c / 4294967296) := by
    conv => lhs; rw [e2, Nat.mul_add, ← Nat.mul_assoc]
  rw [Nat.add_assoc, ← this, ← e, ← h, Nat.mul_add, Nat.mul_add]
  omega
theorem Sum.step {w : World} {g o : Nat} {zs xs ys : List Nat} {i k : Nat} {wr : World} (h : Sum w g o zs xs ys i k wr) (x y : Nat) (hx : x < 4294967296) (hy : y < 4294967296)
    (ex : val (xs.take (i + 1)) = val (xs.take i) + B ^ i * x) (ey : val (ys.take (i + 1)) = val (ys.take i) + B ^ i * y) (hz : o + i < zs.length) :
    Sum w g o zs xs ys (i + 1) ((x + y + k) / 4294967296) (wr.setCell ⟨g, o + i, none⟩ (lv ((x + y + k) % 4294967296))) := by
  obtain ⟨ss, hl, lo, hv, r⟩ := h.ss
  have hk := h.k1
  refine ⟨⟨ss ++ [(x + y + k) % 4294967296], by simp [hl], lo.append (.cons (Nat.mod_lt _ (by decide)) .nil), ?_, ?_⟩, by omega, h.t.setCell _ _⟩
  · rw [val_snoc, hl, ex, ey, Nat.pow_succ]
    have := sum_step (c := x + y + k) hv (x := x) (y := y) rfl
    rw [← B_eq] at this
    rw [B_eq] at *
    omega
  · have := r.set_ (o + i) ((x + y + k) % 4294967296) (Nat.mod_lt _ (by decide))
    rwa [set_part zs ss _ o i hz hl] at this

set_option maxHeartbeats 2000000 in
set_option maxRecDepth 100000 in
theorem addInto_any {A A' : Option Addr} {g o ns cs n c n' c' : Nat} {zs xs ys : List Nat} {w : World} (hr : Row w g zs) (hx : Src w g o zs A xs) (lx : Lo xs) (ex : xs.length = n) (hy : Lim w A' n' c' ys)
    (hz : o + n ≤ zs.length) (hs : n ≤ ns) (hn : n' ≤ n) (hm : n ≤ 1000) (hne : ∀ ad, A' = some ad → 0 < n' → ad.block ≠ g) :
    Calls Tryd.prog 118 #[.slice (some ⟨g, o, none⟩) ns cs, .slice A n c, .slice A' n' c'] w fun e w' => ∃ k, e = .returned (lv k) ∧ Sum w g o zs xs ys n k w' := by
  have S0 : Sum w g o zs xs ys 0 0 w := ⟨⟨[], rfl, .nil, by simp [val_nil], by simpa using hr⟩, by omega, Turn.refl _ _⟩
  have HY := Lib.hid hy; have HX := Lib.hid hx; have EX := Lib.hid ex; have LX := Lib.hid lx; have HNE := Lib.hid hne
  have ey := hy.len
  have EY := Lib.hid ey
  clear hr hx lx ex hy hne ey
  go_enter Tryd.func118, Tryd.ntmps118
  go_wp2_with fail
  go_loopg [7, 12] n' (fun q s7 s12 wr => ∃ i k, i + q = n' ∧ s12 = .int .i64 (i : Int) ∧ s7 = lv k ∧ Sum w g o zs xs ys i k wr)
  case atStart => exact ⟨0, 0, by omega, rfl, rfl, S0⟩
  case round =>
    clear S0
    obtain ⟨i, k, hq, rfl, rfl, S⟩ := hrel
    have HQ := Lib.hid hq
    by_cases lt : i < n'
    · clear hq
      have il : (i : Int) < n' := by omega
      have il2 : (i : Int) < n := by omega
      have il3 : (i : Int) < ns := by omega
      have il0 : (0 : Int) ≤ i := by omega
      have i1 : i < xs.length := by rw [EX.out]; omega
      have i2 : i < ys.length := by rw [EY.out]; omega
      obtain ⟨ss, hl, lo, hv, r⟩ := S.ss
      obtain ⟨ad, rfl, c1⟩ := HX.out i i1 ss wr hl S.t r
      obtain ⟨ad', rfl, c2⟩ := (turn_lim S.t HY.out HNE.out).at_ i i2
      have c3 := r.cell' (part_at zs ss o i (by omega) hl)
      have f3 := r.melt (o + i)
      have bx := LX.out.at_ i i1
      have bY := HY.out.lo.at_ i i2
      have hk := S.k1
      have ST := Lib.hid (S.step xs[i] ys[i] bx bY (val_take_succ xs i i1) (val_take_succ ys i i2) (by omega))
      generalize xs[i] = x at *
      generalize ys[i] = y at *
      generalize zs[o + i]'(by omega) = z at *
      clear ss hl lo hv r S
      go_wp2_with fail
      go_region_with (first | (go_at_call 134; refine (add32 _ _ _ (by assumption) (by assumption) (by assumption) _).mono ?_; rintro e w1 ⟨rfl, rfl⟩))
      all_goals go_wp2_with fail
      all_goals go_roundg (gk - 1)
      case measure => have := HQ.out; omega
      case measure => have := HQ.out; omega
      all_goals go_light
      all_goals refine ⟨i + 1, _, by have := HQ.out; omega, by go_num, rfl, ?_⟩
      all_goals rw [u32_mod]
      all_goals exact ST.out.drew
    · obtain rfl : n' = i := by omega
      clear lt hq HQ
      have il : ¬ (n' : Int) < n' := by omega
      go_wp2_with fail
      go_loopg [7, 9] (n - n') (fun q s7 s9 wr => ∃ i k, i + q = n ∧ n' ≤ i ∧ s9 = .int .i64 (i : Int) ∧ s7 = lv k ∧ Sum w g o zs xs ys i k wr)
      case atStart => exact ⟨n', k, by omega, Nat.le_refl _, rfl, rfl, S⟩
      case round =>
        clear S
        obtain ⟨i, k, hq, hi, rfl, rfl, S⟩ := hrel
        have HQ := Lib.hid hq
        by_cases lt : i < n
        · clear hq il
          have il2 : (i : Int) < n := by omega
          have il3 : (i : Int) < ns := by omega
          have il0 : (0 : Int) ≤ i := by omega
          have i1 : i < xs.length := by rw [EX.out]; omega
          obtain ⟨ss, hl, lo, hv, r⟩ := S.ss
          obtain ⟨ad, rfl, c1⟩ := HX.out i i1 ss wr hl S.t r
          have c3 := r.cell' (part_at zs ss o i (by omega) hl)
          have f3 := r.melt (o + i)
          have bx := LX.out.at_ i i1
          have hk := S.k1
          have ST := Lib.hid (S.step xs[i] 0 bx (by omega) (val_take_succ xs i i1) (by rw [List.take_of_length_le (by rw [EY.out]; omega), List.take_of_length_le (by rw [EY.out]; omega), Nat.mul_zero, Nat.add_zero]) (by omega))
          generalize xs[i] = x at *
          generalize zs[o + i]'(by omega) = z at *
          clear ss hl lo hv r S
          have KA := Lib.hid (add32 x 0 k bx (by omega) hk)
          go_wp2_with fail
          refine (KA.out _).mono ?_
          rintro e w1 ⟨rfl, rfl⟩
          go_wp2_with fail
          go_roundg (gk - 1)
          case measure => have := HQ.out; omega
          case rel =>
            go_light
            have T := ST.out
            rw [Nat.add_zero] at T
            refine ⟨i + 1, _, by have := HQ.out; omega, by omega, by go_num, rfl, ?_⟩
            rw [u32_mod2]
            exact T
        · obtain rfl : n = i := by omega
          have il2 : ¬ (n : Int) < n := by omega
          go_wp2_with fail
          go_ret
          exact ⟨k, rfl, S⟩
end Go.Proofs.YtdnikdocfbbkkaaDoor
namespace Go.Proofs.YtdnikdocfbbkkaaDoor
open Go.RowKit

theorem Src.old {w : World} {o : Nat} {zs : List Nat} {A : Option Addr} {n c : Nat} {xs : List Nat} (l : Lim w A n c xs) (ob : Obj) : Src (w.alloc ob) w.heap.size o zs A xs := by
  by_cases hn : 0 < n
  · exact Src.far (l.alloc ob) (fun ad e => l.new_ne ad e hn)
  · intro i h
    have := l.len
    omega
theorem sum_done {w w1 : World} {g n k : Nat} {xs ys : List Nat} (h : Sum w g 0 (List.replicate (n + 1) 0) xs ys n k w1) (hx : xs.length = n) (hy : ys.length ≤ n) :
    ∃ ss, ss.length = n + 1 ∧ val ss = val xs + val ys ∧ Row (w1.setCell ⟨g, n, none⟩ (lv k)) g ss := by
  obtain ⟨ss, hl, lo, hv, r⟩ := h.ss
  rw [List.take_of_length_le (by omega), List.take_of_length_le (by omega)] at hv
  have hk := h.k1
  have e : (List.replicate (n + 1) 0).take 0 ++ ss ++ (List.replicate (n + 1) 0).drop (0 + n) = ss ++ [0] := by simp
  rw [e] at r
  refine ⟨ss ++ [k], by simp [hl], by rw [val_snoc, hl, hv], ?_⟩
  have := r.set_ n k (by omega)
  rwa [List.set_append_right _ _ (by omega), hl, Nat.sub_self, List.set_cons_zero] at this

set_option maxHeartbeats 2000000 in
set_option maxRecDepth 100000 in
theorem sum_any {A A' : Option Addr} {n c n' c' a b : Nat} {w : World} (ha : Lim w A n c (limbs a)) (hb : Lim w A' n' c' (limbs b)) (la : ln a ≤ 64) (lb : ln b ≤ 64) :
    Calls Tryd.prog 78 #[.slice A n c, .slice A' n' c'] w fun e w' => RetN (a + b) w e w' := by
  have hl := ha.len; have hl' := hb.len
  rw [limbs_length] at hl hl'
  by_cases lt : n < n'
  · have il : (n : Int) < n' := by omega
    have hmk : ∀ W : World, (Instr.makeSlice 23 (.int .i64 ((n' : Int) + 1)) (.int .i64 ((n' : Int) + 1))).run Tryd.prog W = .ok (.slice (some ⟨W.heap.size, 0, none⟩) (n' + 1) (n' + 1)) (W.alloc (zrow (n' + 1))) := make_u32 (n' + 1) (by omega)
    have KA := Lib.hid (addInto_any (ns := n' + 1) (cs := n' + 1) (c := c') (c' := c) (Row.zeros w (n' + 1)) (Src.old (o := 0) (zs := List.replicate (n' + 1) 0) hb _) (lo_limbs b) hb.len (ha.alloc _) (by simp) (by omega) (by omega) (by omega) ha.new_ne)
    have hBl : Below w.heap.size w (w.alloc (zrow (n' + 1))) := (Below.refl _ _).alloc (Nat.le_refl _) _
    have HX := Lib.hid hb.len; have HY := Lib.hid ha.len
    have hn : n' ≤ 64 := by omega
    clear ha hb la lb hl hl' lt
    go_enter Tryd.func78, Tryd.ntmps78
    go_wp2_with fail
    generalize w.alloc (zrow (n' + 1)) = wa at *
    generalize hg : w.heap.size = g at *
    refine (KA.out).mono ?_
    rintro e w1 ⟨k, rfl, S⟩
    obtain ⟨ss, sl, sv, R⟩ := sum_done S HX.out (by have := HY.out; have := HX.out; omega)
    obtain ⟨q, hq⟩ : ∃ q, w1.cell? ⟨g, n', none⟩ = some q := by
      obtain ⟨ts, tl, _, _, r⟩ := S.ss
      exact ⟨_, r.cell n' (by simp [tl])⟩
    have hf : w1.frozen? ⟨g, n', none⟩ = false := by
      obtain ⟨ts, tl, _, _, r⟩ := S.ss
      exact r.melt _
    have T := (hBl.trans (S.t.below (Nat.le_refl _)))
    have RL := Lib.hid (R.lim (o := 0) (n := n' + 1) (c := n' + 1) (by omega) (Nat.le_refl _) (by omega))
    have HG := Lib.hid hg
    clear R S KA hBl hg
    go_wp2_with fail
    have TR := trim_any RL.out
    rw [List.drop_zero, List.take_of_length_le (by omega), sv, val_limbs, val_limbs, Nat.add_comm b a] at TR
    refine TR.mono ?_
    rintro e w2 ⟨A2, n2, c2, rfl, L2, rfl⟩
    go_wp2_with fail
    go_ret
    exact ⟨_, _, _, rfl, L2, by rw [HG.out]; exact T.setCell (Nat.le_refl _) _⟩
  · have il : ¬ (n : Int) < n' := by omega
    have hmk : ∀ W : World, (Instr.makeSlice 23 (.int .i64 ((n : Int) + 1)) (.int .i64 ((n : Int) + 1))).run Tryd.prog W = .ok (.slice (some ⟨W.heap.size, 0, none⟩) (n + 1) (n + 1)) (W.alloc (zrow (n + 1))) := make_u32 (n + 1) (by omega)
    have KA := Lib.hid (addInto_any (ns := n + 1) (cs := n + 1) (c := c) (c' := c') (Row.zeros w (n + 1)) (Src.old (o := 0) (zs := List.replicate (n + 1) 0) ha _) (lo_limbs a) ha.len (hb.alloc _) (by simp) (by omega) (by omega) (by omega) hb.new_ne)
    have hBl : Below w.heap.size w (w.alloc (zrow (n + 1))) := (Below.refl _ _).alloc (Nat.le_refl _) _
    have HX := Lib.hid ha.len; have HY := Lib.hid hb.len
    have hn : n ≤ 64 := by omega
    clear ha hb la lb hl hl' lt
    go_enter Tryd.func78, Tryd.ntmps78
    go_wp2_with fail
    generalize w.alloc (zrow (n + 1)) = wa at *
    generalize hg : w.heap.size = g at *
    refine (KA.out).mono ?_
    rintro e w1 ⟨k, rfl, S⟩
    obtain ⟨ss, sl, sv, R⟩ := sum_done S HX.out (by have := HY.out; have := HX.out; omega)
    obtain ⟨q, hq⟩ : ∃ q, w1.cell? ⟨g, n, none⟩ = some q := by
      obtain ⟨ts, tl, _, _, r⟩ := S.ss
      exact ⟨_, r.cell n (by simp [tl])⟩
    have hf : w1.frozen? ⟨g, n, none⟩ = false := by
      obtain ⟨ts, tl, _, _, r⟩ := S.ss
      exact r.melt _
    have T := (hBl.trans (S.t.below (Nat.le_refl _)))
    have RL := Lib.hid (R.lim (o := 0) (n := n + 1) (c := n + 1) (by omega) (Nat.le_refl _) (by omega))
    have HG := Lib.hid hg
    clear R S KA hBl hg
    go_wp2_with fail
    have TR := trim_any RL.out
    rw [List.drop_zero, List.take_of_length_le (by omega), sv, val_limbs, val_limbs] at TR
    refine TR.mono ?_
    rintro e w2 ⟨A2, n2, c2, rfl, L2, rfl⟩
    go_wp2_with fail
    go_ret
    exact ⟨_, _, _, rfl, L2, by rw [HG.out]; exact T.setCell (Nat.le_refl _) _⟩

theorem RetN.lim {r : Nat} {w : World} {e : Ending} {w' : World} (h : RetN r w e w') : ∃ A n c, e = .returned (.slice A n c) ∧ Lim w' A n c (limbs r) ∧ Below w.heap.size w w' := h
set_option maxRecDepth 100000 in
theorem add_any {A A' : Option Addr} {n c n' c' a b : Nat} {w : World} (ha : Lim w A n c (limbs a)) (hb : Lim w A' n' c' (limbs b)) (la : ln a ≤ 64) (lb : ln b ≤ 64) :
    Calls Tryd.prog 27 #[.slice A n c, .slice A' n' c'] w fun e w' => RetE (fitN (a + b)) (fitE (a + b)) w e w' := by
  have RA := Lib.hid (right_yes ha la); have RB := Lib.hid (right_yes hb lb)
  have K := Lib.hid (sum_any ha hb la lb)
  clear ha hb la lb
  go_enter Tryd.func27, Tryd.ntmps27
  go_wp2_with fail
  refine RA.out.mono ?_
  rintro e w' ⟨rfl, rfl⟩
  go_wp2_with fail
  refine RB.out.mono ?_
  rintro e w' ⟨rfl, rfl⟩
  go_wp2_with fail
  refine K.out.mono ?_
  rintro e w1 ⟨A1, n1, c1, rfl, L1, B1⟩
  go_wp2_with fail
  refine (fitting_any L1).mono ?_
  rintro e w2 ⟨A2, n2, c2, rfl, L2, B2⟩
  go_wp2_with fail
  go_ret2
  exact ⟨_, _, _, rfl, L2, below_step B1 B2⟩
/-- Refused: what is no natural. -/
def NoTwo (xs ys : List Nat) : Prop := ¬ (Nt xs ∧ Nt ys)
theorem rights_no {A A' : Option Addr} {n c n' c' : Nat} {xs ys : List Nat} {w : World} (ha : Lim w A n c xs) (hb : Lim w A' n' c' ys) (h : NoTwo xs ys) :
    (∃ _ : Nt xs, (∀ w' : World, w = w' → Calls Tryd.prog 71 #[.slice A n c] w' fun e w'' => e = .returned (.bool true) ∧ w' = w'') ∧ (∀ w' : World, w = w' → Calls Tryd.prog 71 #[.slice A' n' c'] w' fun e w'' => e = .returned (.bool false) ∧ w' = w'')) ∨
    (∀ w' : World, w = w' → Calls Tryd.prog 71 #[.slice A n c] w' fun e w'' => e = .returned (.bool false) ∧ w' = w'') := by
  by_cases ka : Nt xs
  · refine Or.inl ⟨ka, ?_, ?_⟩
    · rintro w' rfl
      exact right_yes (ka.eq ha.lo ▸ ha) (by unfold ln; rw [← ka.eq ha.lo]; exact ka.1)
    · rintro w' rfl
      exact right_no hb (fun x => h ⟨ka, x⟩)
  · refine Or.inr ?_
    rintro w' rfl
    exact right_no ha ka
set_option maxRecDepth 100000 in
theorem add_none {A A' : Option Addr} {n c n' c' : Nat} {xs ys : List Nat} {w : World} (ha : Lim w A n c xs) (hb : Lim w A' n' c' ys) (h : NoTwo xs ys) :
    Calls Tryd.prog 27 #[.slice A n c, .slice A' n' c'] w fun e w' => e = .returned (.tuple #[.slice none 0 0, .int .i64 1]) ∧ w = w' := by
  rcases rights_no ha hb h with ⟨_, RA, RB⟩ | RA
  · have RA := Lib.hid RA; have RB := Lib.hid RB
    clear ha hb h
    go_enter Tryd.func27, Tryd.ntmps27
    go_wp2_with fail
    refine (RA.out _ rfl).mono ?_
    rintro e w' ⟨rfl, rfl⟩
    go_wp2_with fail
    refine (RB.out _ rfl).mono ?_
    rintro e w' ⟨rfl, rfl⟩
    go_wp2_with fail
    go_ret2
    exact ⟨rfl, rfl⟩
  · have RA := Lib.hid RA
    clear ha hb h
    go_enter Tryd.func27, Tryd.ntmps27
    go_wp2_with fail
    refine (RA.out _ rfl).mono ?_
    rintro e w' ⟨rfl, rfl⟩
    go_wp2_with fail
    go_ret2
    exact ⟨rfl, rfl⟩
end Go.Proofs.YtdnikdocfbbkkaaDoor
namespace Go.Proofs.YtdnikdocfbbkkaaDoor
open Go.RowKit

/-- What is in the loops of difference. -/
structure Dif (w : World) (g n : Nat) (xs ys : List Nat) (i k : Nat) (wr : World) : Prop where
  ss : ∃ ss, ss.length = i ∧ Lo ss ∧ val (xs.take i) + B ^ i * k = val ss + val (ys.take i) ∧ Row wr g (ss ++ (List.replicate n 0).drop i)
  k1 : k ≤ 1
  t : Turn w wr g
theorem Dif.drew {w : World} {g n : Nat} {xs ys : List Nat} {i k : Nat} {wr : World} (h : Dif w g n xs ys i k wr) : Dif w g n xs ys i k wr.drew := by
  obtain ⟨ss, a, b, c, r⟩ := h.ss
  exact ⟨⟨ss, a, b, c, r.drew⟩, h.k1, h.t.drew⟩
theorem dif_limb (x y k : Nat) (hx : x < 4294967296) (hy : y < 4294967296) (hk : k ≤ 1) : x + 4294967296 * bor x (y + k) = (x + 8589934592 - y - k) % 4294967296 + y + k := by
  by_cases h : x < y + k
  · rw [bor_yes h]; omega
  · rw [bor_no h]; omega
theorem dif_step {P s t v x y k b d : Nat} (h : s + P * k = v + t) (e : x + 4294967296 * b = d + y + k) : s + P * x + P * 4294967296 * b = v + P * d + (t + P * y) := by
  have : P * x + P * 4294967296 * b = P * d + P * y + P * k := by
    rw [Nat.mul_assoc, ← Nat.mul_add, e, Nat.mul_add, Nat.mul_add]
  omega
theorem Dif.step {w : World} {g n : Nat} {xs ys : List Nat} {i k : Nat} {wr : World} (h : Dif w g n xs ys i k wr) (x y : Nat) (hx : x < 4294967296) (hy : y < 4294967296)
    (ex : val (xs.take (i + 1)) = val (xs.take i) + B ^ i * x) (ey : val (ys.take (i + 1)) = val (ys.take i) + B ^ i * y) (hz : i < n) :
    Dif w g n xs ys (i + 1) (bor x (y + k)) (wr.setCell ⟨g, i, none⟩ (lv ((x + 8589934592 - y - k) % 4294967296))) := by
  obtain ⟨ss, hl, lo, hv, r⟩ := h.ss
  have hk := h.k1
  refine ⟨⟨ss ++ [(x + 8589934592 - y - k) % 4294967296], by simp [hl], lo.append (.cons (Nat.mod_lt _ (by decide)) .nil), ?_, ?_⟩, bor_le _ _, h.t.setCell _ _⟩
  · rw [val_snoc, hl, ex, ey, Nat.pow_succ]
    have := dif_step hv (dif_limb x y k hx hy hk)
    rw [B_eq] at *
    omega
  · have := r.set_ i ((x + 8589934592 - y - k) % 4294967296) (Nat.mod_lt _ (by decide))
    have e := set_part (List.replicate n 0) ss ((x + 8589934592 - y - k) % 4294967296) 0 i (by simp; omega) hl
    simp only [List.take_zero, List.nil_append, Nat.zero_add] at e
    rwa [e] at this
theorem Dif.cell {w : World} {g n : Nat} {xs ys : List Nat} {i k : Nat} {wr : World} (h : Dif w g n xs ys i k wr) (hi : i < n) : wr.cell? ⟨g, i, none⟩ = some (lv 0) ∧ wr.frozen? ⟨g, i, none⟩ = false := by
  obtain ⟨ss, hl, lo, hv, r⟩ := h.ss
  refine ⟨?_, r.melt _⟩
  have := part_at (List.replicate n 0) ss 0 i (by simp; omega) hl
  simp only [List.take_zero, List.nil_append, Nat.zero_add, List.getElem_replicate] at this
  exact r.cell' this
theorem Dif.done {w : World} {g n : Nat} {xs ys : List Nat} {k : Nat} {wr : World} (h : Dif w g n xs ys n k wr) (hx : xs.length = n) (hy : ys.length ≤ n) (hle : val ys ≤ val xs) :
    ∃ ss, ss.length = n ∧ val ss = val xs - val ys ∧ Row wr g ss := by
  obtain ⟨ss, hl, lo, hv, r⟩ := h.ss
  rw [List.take_of_length_le (by omega), List.take_of_length_le (by omega)] at hv
  have e : ss ++ (List.replicate n 0).drop n = ss := by simp
  rw [e] at r
  refine ⟨ss, hl, ?_, r⟩
  have l := val_lt lo
  rw [hl] at l
  have hk := h.k1
  have : k = 0 ∨ k = 1 := by omega
  rcases this with rfl | rfl
  · omega
  · rw [Nat.mul_one] at hv; omega
theorem u32_sub (x y k : Nat) (hx : x < 4294967296) (hy : y < 4294967296) (hk : k ≤ 1) : ((((x + 8589934592 - y - k) % 4294967296 : Nat)) : Int) = ((x : Int) + 8589934592 - y - k) % 4294967296 := by omega

set_option maxHeartbeats 4000000 in
set_option maxRecDepth 100000 in
theorem difference_any {A A' : Option Addr} {n c n' c' a b : Nat} {w : World} (ha : Lim w A n c (limbs a)) (hb : Lim w A' n' c' (limbs b)) (la : ln a ≤ 64) (hle : b ≤ a) :
    Calls Tryd.prog 112 #[.slice A n c, .slice A' n' c'] w fun e w' => RetN (a - b) w e w' := by
  have hl := ha.len; have hl' := hb.len
  rw [limbs_length] at hl hl'
  have hnn : n' ≤ n := by rw [← hl, ← hl']; exact ln_mono hle
  have hmk := make_u32 n (by omega)
  have S0 : Dif (w.alloc (zrow n)) w.heap.size n (limbs a) (limbs b) 0 0 (w.alloc (zrow n)) := ⟨⟨[], rfl, .nil, by simp [val_nil], by simpa using Row.zeros w n⟩, by omega, Turn.refl _ _⟩
  have LA := Lib.hid (ha.alloc (zrow n)); have LB := Lib.hid (hb.alloc (zrow n))
  have NA := Lib.hid ha.new_ne; have NB := Lib.hid hb.new_ne
  have hBl : Below w.heap.size w (w.alloc (zrow n)) := (Below.refl _ _).alloc (Nat.le_refl _) _
  have HL := Lib.hid ha.len; have HL' := Lib.hid hb.len
  have HE := Lib.hid hle
  have hn64 : n ≤ 64 := by omega
  clear ha hb la hl hl' hle
  go_enter Tryd.func112, Tryd.ntmps112
  go_wp2_with fail
  generalize w.alloc (zrow n) = wa at *
  generalize hg : w.heap.size = g at *
  have HG := Lib.hid hg
  clear hg
  go_loopg [6, 14] n' (fun q s6 s14 wr => ∃ i k, i + q = n' ∧ s14 = .int .i64 (i : Int) ∧ s6 = lv k ∧ Dif wa g n (limbs a) (limbs b) i k wr)
  case atStart => exact ⟨0, 0, by omega, rfl, rfl, S0⟩
  case round =>
    clear S0
    obtain ⟨i, k, hq, rfl, rfl, S⟩ := hrel
    have HQ := Lib.hid hq
    by_cases lt : i < n'
    · clear hq
      have il : (i : Int) < n' := by omega
      have il2 : (i : Int) < n := by omega
      have il0 : (0 : Int) ≤ i := by omega
      have i1 : i < (limbs a).length := by rw [HL.out]; omega
      have i2 : i < (limbs b).length := by rw [HL'.out]; omega
      obtain ⟨ad, rfl, c1⟩ := (turn_lim S.t LA.out NA.out).at_ i i1
      obtain ⟨ad', rfl, c2⟩ := (turn_lim S.t LB.out NB.out).at_ i i2
      obtain ⟨c3, f3⟩ := S.cell (by omega)
      have bx := (lo_limbs a).at_ i i1
      have bY := (lo_limbs b).at_ i i2
      have hk := S.k1
      have ST := Lib.hid (S.step _ _ bx bY (val_take_succ _ i i1) (val_take_succ _ i i2) (by omega))
      generalize (limbs a)[i] = x at *
      generalize (limbs b)[i] = y at *
      have KS := Lib.hid (sub32 x y k bx bY hk)
      generalize (x + 8589934592 - y - k) % 4294967296 = v at *
      clear S
      go_wp2_with fail
      go_region_with (first | (go_at_call 130; refine (KS.out _).mono ?_; rintro e w1 ⟨rfl, rfl⟩))
      all_goals go_wp2_with fail
      all_goals go_roundg (gk - 1)
      case measure => have := HQ.out; omega
      case measure => have := HQ.out; omega
      all_goals go_light
      all_goals exact ⟨i + 1, _, by have := HQ.out; omega, by go_num, rfl, ST.out.drew⟩
    · obtain rfl : n' = i := by omega
      clear lt hq HQ
      have il : ¬ (n' : Int) < n' := by omega
      go_wp2_with fail
      go_loopg [6, 8] (n - n') (fun q s6 s8 wr => ∃ i k, i + q = n ∧ n' ≤ i ∧ s8 = .int .i64 (i : Int) ∧ s6 = lv k ∧ Dif wa g n (limbs a) (limbs b) i k wr)
      case atStart => exact ⟨n', k, by omega, Nat.le_refl _, rfl, rfl, S⟩
      case round =>
        clear S
        obtain ⟨i, k, hq, hi, rfl, rfl, S⟩ := hrel
        have HQ := Lib.hid hq
        by_cases lt : i < n
        · clear hq il
          have il2 : (i : Int) < n := by omega
          have il0 : (0 : Int) ≤ i := by omega
          have i1 : i < (limbs a).length := by rw [HL.out]; omega
          obtain ⟨ad, rfl, c1⟩ := (turn_lim S.t LA.out NA.out).at_ i i1
          obtain ⟨c3, f3⟩ := S.cell (by omega)
          have bx := (lo_limbs a).at_ i i1
          have hk := S.k1
          have ST := Lib.hid (S.step _ 0 bx (by omega) (val_take_succ _ i i1) (by rw [List.take_of_length_le (by rw [HL'.out]; omega), List.take_of_length_le (by rw [HL'.out]; omega), Nat.mul_zero, Nat.add_zero]) (by omega))
          generalize (limbs a)[i] = x at *
          have KS := Lib.hid (sub32 x 0 k bx (by omega) hk)
          generalize (x + 8589934592 - 0 - k) % 4294967296 = v at *
          generalize bor x (0 + k) = k2 at *
          clear S
          go_wp2_with fail
          refine (KS.out _).mono ?_
          rintro e w1 ⟨rfl, rfl⟩
          go_wp2_with fail
          go_roundg (gk - 1)
          case measure => have := HQ.out; omega
          case rel =>
            go_light
            exact ⟨i + 1, _, by have := HQ.out; omega, by omega, by go_num, rfl, ST.out⟩
        · obtain rfl : n = i := by omega
          have il2 : ¬ (n : Int) < n := by omega
          obtain ⟨ss, sl, sv, R⟩ := S.done HL.out (by rw [HL'.out]; omega) (by rw [val_limbs, val_limbs]; exact HE.out)
          have T := hBl.trans (S.t.below (Nat.le_refl _))
          have TR := trim_any (R.lim (o := 0) (n := n) (c := n) (by omega) (Nat.le_refl _) (by omega))
          rw [List.drop_zero, List.take_of_length_le (by omega), sv, val_limbs, val_limbs] at TR
          have TR := Lib.hid TR
          clear R S sv sl hq HQ
          go_wp2_with fail
          refine TR.out.mono ?_
          rintro e w2 ⟨A2, n2, c2, rfl, L2, rfl⟩
          go_wp2_with fail
          go_ret
          exact ⟨_, _, _, rfl, L2, by rw [HG.out]; exact T⟩

set_option maxRecDepth 100000 in
theorem sub_any {A A' : Option Addr} {n c n' c' a b : Nat} {w : World} (ha : Lim w A n c (limbs a)) (hb : Lim w A' n' c' (limbs b)) (la : ln a ≤ 64) (lb : ln b ≤ 64) (h : b ≤ a) :
    Calls Tryd.prog 65 #[.slice A n c, .slice A' n' c'] w fun e w' => RetE (a - b) 0 w e w' := by
  have RA := Lib.hid (right_yes ha la); have RB := Lib.hid (right_yes hb lb)
  have KC := Lib.hid (cmp_any ha hb la lb)
  have K : Hid (∀ m, Calls Tryd.prog 112 #[.slice A n c, .slice A' n' c'] (w.drewN m) fun e w' => RetN (a - b) (w.drewN m) e w') := fun m => difference_any (ha.drewN m) (hb.drewN m) la h
  have hs : ¬ sgn a b < 0 := by
    rcases Nat.lt_or_eq_of_le h with k | k
    · rw [sgn_gt k]; omega
    · rw [k, sgn_eq]; omega
  clear ha hb la lb h
  generalize sgn a b = s at *
  go_enter Tryd.func65, Tryd.ntmps65
  go_wp2_with fail
  refine RA.out.mono ?_
  rintro e w' ⟨rfl, rfl⟩
  go_wp2_with fail
  refine RB.out.mono ?_
  rintro e w' ⟨rfl, rfl⟩
  go_wp2_with fail
  refine KC.out.mono ?_
  rintro e w' ⟨rfl, m, rfl⟩
  go_wp2_with fail
  refine (K.out m).mono ?_
  rintro e w1 ⟨A1, n1, c1, rfl, L1, B1⟩
  go_wp2_with fail
  go_ret2
  exact ⟨_, _, _, rfl, L1, below_step (below_drewN (Below.refl _ _) m) B1⟩
set_option maxRecDepth 100000 in
theorem sub_under {A A' : Option Addr} {n c n' c' a b : Nat} {w : World} (ha : Lim w A n c (limbs a)) (hb : Lim w A' n' c' (limbs b)) (la : ln a ≤ 64) (lb : ln b ≤ 64) (h : a < b) :
    Calls Tryd.prog 65 #[.slice A n c, .slice A' n' c'] w fun e w' => e = .returned (.tuple #[.slice none 0 0, .int .i64 1]) ∧ ∃ m, w' = w.drewN m := by
  have RA := Lib.hid (right_yes ha la); have RB := Lib.hid (right_yes hb lb)
  have KC := Lib.hid (cmp_any ha hb la lb)
  rw [sgn_lt h] at KC
  clear ha hb la lb h
  go_enter Tryd.func65, Tryd.ntmps65
  go_wp2_with fail
  refine RA.out.mono ?_
  rintro e w' ⟨rfl, rfl⟩
  go_wp2_with fail
  refine RB.out.mono ?_
  rintro e w' ⟨rfl, rfl⟩
  go_wp2_with fail
  refine KC.out.mono ?_
  rintro e w' ⟨rfl, m, rfl⟩
  go_wp2_with fail
  go_ret2
  exact ⟨rfl, m, rfl⟩
set_option maxRecDepth 100000 in
theorem sub_none {A A' : Option Addr} {n c n' c' : Nat} {xs ys : List Nat} {w : World} (ha : Lim w A n c xs) (hb : Lim w A' n' c' ys) (h : NoTwo xs ys) :
    Calls Tryd.prog 65 #[.slice A n c, .slice A' n' c'] w fun e w' => e = .returned (.tuple #[.slice none 0 0, .int .i64 1]) ∧ w = w' := by
  rcases rights_no ha hb h with ⟨_, RA, RB⟩ | RA
  · have RA := Lib.hid RA; have RB := Lib.hid RB
    clear ha hb h
    go_enter Tryd.func65, Tryd.ntmps65
    go_wp2_with fail
    refine (RA.out _ rfl).mono ?_
    rintro e w' ⟨rfl, rfl⟩
    go_wp2_with fail
    refine (RB.out _ rfl).mono ?_
    rintro e w' ⟨rfl, rfl⟩
    go_wp2_with fail
    go_ret2
    exact ⟨rfl, rfl⟩
  · have RA := Lib.hid RA
    clear ha hb h
    go_enter Tryd.func65, Tryd.ntmps65
    go_wp2_with fail
    refine (RA.out _ rfl).mono ?_
    rintro e w' ⟨rfl, rfl⟩
    go_wp2_with fail
    go_ret2
    exact ⟨rfl, rfl⟩
end Go.Proofs.YtdnikdocfbbkkaaDoor
