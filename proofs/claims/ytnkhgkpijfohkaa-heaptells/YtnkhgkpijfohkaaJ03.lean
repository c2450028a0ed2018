/- The walks of Add32, Sub32, Div32, Bits, fitting. Blocks of limbs that a call has made, and writes into. The walk of addInto. The walks of sum, Add. The walks of difference, Sub. The walks of product, Mul. The walks of From, Of, divShort. The walks of shifted, shiftedBack. The walk of takeTimes. The walk of takeOut. Plain arithmetic of long division. The walk of divLong. The walks of Clone, divide, Div. The walks of word, gcdWords, Gcd. -/
import Derived.Test.YtnkhgkpijfohkaaJ02
import Derived.Laws.OwnMore
import Derived.OwnWalk
import Derived.BigRegion
import Derived.Lib.SliceRun
namespace Go.Proofs.Ytnkhgkpijfohkaa
open Go.RowKit
theorem pair_eq {k : IntKind} {a b c d : Int} (h1 : a = c) (h2 : b = d) : Ending.returned (.tuple #[.int k a, .int k b]) = .returned (.tuple #[.int k c, .int k d]) := by rw [h1, h2]
theorem int_eq {k : IntKind} {a b : Int} (h : a = b) : Ending.returned (.int k a) = .returned (.int k b) := by rw [h]
/-- The number, if it has at most 64 limbs; else 0. -/
@[irreducible] def fitN (r : Nat) : Nat := if ln r ≤ 64 then r else 0
/-- OK or ErrBig. -/
@[irreducible] def fitE (r : Nat) : Int := if ln r ≤ 64 then 0 else 6
theorem fitN_yes {r : Nat} (h : ln r ≤ 64) : fitN r = r := by unfold fitN; rw [if_pos h]
theorem fitN_no {r : Nat} (h : ¬ ln r ≤ 64) : fitN r = 0 := by unfold fitN; rw [if_neg h]
theorem fitE_yes {r : Nat} (h : ln r ≤ 64) : fitE r = 0 := by unfold fitE; rw [if_pos h]
theorem fitE_no {r : Nat} (h : ¬ ln r ≤ 64) : fitE r = 6 := by unfold fitE; rw [if_neg h]
theorem lim_zero (w : World) (A : Option Addr) (c : Nat) (hc : c ≤ 9223372036854775807) : Lim w A 0 c (limbs 0) := by rw [limbs_zero]; exact Lim.none_ w A c hc
end Go.Proofs.Ytnkhgkpijfohkaa
namespace Go.Proofs.Ytnkhgkpijfohkaa
open Go.RowKit

theorem add_lit (g o i : Nat) : (⟨g, o, none⟩ : Addr).add i = ⟨g, o + i, none⟩ := by
  unfold Addr.add
  by_cases h : i = 0
  · subst h; rfl
  · rw [if_neg h]
theorem block_add (a : Addr) (n : Nat) : (a.add n).block = a.block := by unfold Addr.add; split <;> rfl

/-- Block g is just the limbs xs. -/
structure Row (w : World) (g : Nat) (xs : List Nat) : Prop where
  blk : w.heap[g]? = some (.cells (xs.map lv).toArray 79 (0, 0))
  lo : Lo xs

section
variable {w w' : World} {g : Nat} {xs : List Nat}
theorem Row.lt (h : Row w g xs) : g < w.heap.size := (Array.getElem?_eq_some_iff.1 h.blk).1
theorem Row.cell (h : Row w g xs) (i : Nat) (hi : i < xs.length) : w.cell? ⟨g, i, none⟩ = some (lv xs[i]) := by
  have := h.blk
  simp [World.cell?, this, hi]
theorem Row.cell' (h : Row w g xs) {i x : Nat} (hi : xs[i]? = some x) : w.cell? ⟨g, i, none⟩ = some (lv x) := by
  obtain ⟨a, b⟩ := List.getElem?_eq_some_iff.1 hi
  rw [h.cell i a, b]
theorem Row.melt (h : Row w g xs) (i : Nat) : w.frozen? ⟨g, i, none⟩ = false := by
  have := h.blk
  simp [World.frozen?, this]
theorem Row.drew (h : Row w g xs) : Row w.drew g xs := ⟨h.blk, h.lo⟩
theorem Row.drewN (h : Row w g xs) (n : Nat) : Row (w.drewN n) g xs := ⟨h.blk, h.lo⟩
theorem Row.alloc (h : Row w g xs) (o : Obj) : Row (w.alloc o) g xs := ⟨(Below.heap_alloc w o g h.lt).trans h.blk, h.lo⟩
theorem Row.next (h : Row w g xs) (hb : Below w.heap.size w w') : Row w' g xs := ⟨(hb.block g h.lt).trans h.blk, h.lo⟩
theorem Row.far (h : Row w g xs) {p : Addr} (hp : g ≠ p.block) (u : Value) : Row (w.setCell p u) g xs := ⟨(Below.heap_setCell w p u g hp).trans h.blk, h.lo⟩
theorem Row.set_ (h : Row w g xs) (i v : Nat) (hv : v < 4294967296) : Row (w.setCell ⟨g, i, none⟩ (lv v)) g (xs.set i v) := by
  refine ⟨?_, fun y hy => ?_⟩
  · have := h.blk
    simp [World.setCell, Array.getElem?_modify, this]
  · rcases List.mem_or_eq_of_mem_set hy with k | k
    · exact h.lo y k
    · rw [k]; exact hv
theorem Row.new (w : World) (xs : List Nat) (h : Lo xs) : Row (w.alloc (.cells (xs.map lv).toArray 79)) w.heap.size xs := ⟨heap_alloc_new w _, h⟩
/-- A piece of a block is a slice. -/
theorem Row.lim (h : Row w g xs) {o n c : Nat} (ho : o + n ≤ xs.length) (hc : n ≤ c) (ht : c ≤ 9223372036854775807) : Lim w (some ⟨g, o, none⟩) n c ((xs.drop o).take n) := by
  refine ⟨by simp; omega, hc, ht, fun j hj => ⟨_, rfl, ?_⟩, (h.lo.drop o).take n⟩
  rw [add_lit]
  have hj' : o + j < xs.length := by simp at hj; omega
  rw [h.cell _ hj']
  simp
end

/-- But for block g all is as it was. -/
structure Turn (w w' : World) (g : Nat) : Prop where
  os : w'.os = w.os
  tape : w'.tape = w.tape
  output : w'.output = w.output
  size : w'.heap.size = w.heap.size
  block : ∀ k, k ≠ g → w'.heap[k]? = w.heap[k]?
section
variable {w w' w'' : World} {g : Nat}
theorem Turn.refl (w : World) (g : Nat) : Turn w w g := ⟨rfl, rfl, rfl, rfl, fun _ _ => rfl⟩
theorem Turn.trans (h : Turn w w' g) (k : Turn w' w'' g) : Turn w w'' g := ⟨k.os.trans h.os, k.tape.trans h.tape, k.output.trans h.output, k.size.trans h.size, fun i hi => (k.block i hi).trans (h.block i hi)⟩
theorem Turn.drew (h : Turn w w' g) : Turn w w'.drew g := ⟨h.os, h.tape, h.output, h.size, h.block⟩
theorem Turn.drewN (h : Turn w w' g) (n : Nat) : Turn w (w'.drewN n) g := ⟨h.os, h.tape, h.output, h.size, h.block⟩
theorem Turn.setCell (h : Turn w w' g) (i : Nat) (u : Value) : Turn w (w'.setCell ⟨g, i, none⟩ u) g :=
  h.trans ⟨rfl, rfl, rfl, by simp [World.setCell], fun k hk => Below.heap_setCell _ _ _ _ hk⟩
theorem Turn.below (h : Turn w w' g) {B : Nat} (hg : B ≤ g) : Below B w w' := ⟨h.os, h.tape, h.output, Nat.le_of_eq h.size.symm, fun k hk => h.block k (by omega)⟩
theorem Turn.lim (h : Turn w w' g) {A : Option Addr} {n c : Nat} {xs : List Nat} (l : Lim w A n c xs) (hne : ∀ ad, A = some ad → ad.block ≠ g) : Lim w' A n c xs :=
  ⟨l.len, l.cap, l.top, fun j hj => by
    obtain ⟨ad, e, hc⟩ := l.at_ j hj
    refine ⟨ad, e, ?_⟩
    rw [World.cell?_of_block (w := w) (h.block _ (by rw [block_add]; exact hne ad e))]
    exact hc, l.lo⟩
theorem Turn.row (h : Turn w w' g) {g' : Nat} {xs : List Nat} (l : Row w g' xs) (hne : g' ≠ g) : Row w' g' xs := ⟨(h.block _ hne).trans l.blk, l.lo⟩
end
/-- What a slice lies in was there. -/
theorem Lim.ne {w : World} {A : Option Addr} {n c : Nat} {xs : List Nat} (l : Lim w A n c xs) (hn : 0 < n) {g : Nat} (hg : w.heap.size ≤ g) : ∀ ad, A = some ad → ad.block ≠ g := by
  intro ad e
  obtain ⟨ad', e', hc⟩ := l.at_ 0 (by have := l.len; omega)
  have := cell_lt hc
  rw [block_add] at this
  rw [e] at e'
  injection e' with e'
  subst e'
  omega

theorem lo_zeros (n : Nat) : Lo (List.replicate n 0) := fun y hy => by rw [(List.mem_replicate.1 hy).2]; decide
/-- A slice that was there lies in no new block. -/
theorem Lim.new_ne {w : World} {A : Option Addr} {n c : Nat} {xs : List Nat} (l : Lim w A n c xs) : ∀ ad, A = some ad → 0 < n → ad.block ≠ w.heap.size := fun ad e hn => l.ne hn (Nat.le_refl _) ad e
/-- Limbs that are not there lie nowhere. -/
theorem turn_lim {w w' : World} {g : Nat} (t : Turn w w' g) {A : Option Addr} {n c : Nat} {xs : List Nat} (l : Lim w A n c xs) (hne : ∀ ad, A = some ad → 0 < n → ad.block ≠ g) : Lim w' A n c xs := by
  by_cases hn : 0 < n
  · exact t.lim l (fun ad e => hne ad e hn)
  · have h0 := l.len
    exact ⟨l.len, l.cap, l.top, fun j hj => by omega, l.lo⟩

/-- The elements' type. -/
theorem info_u32 : (Try.prog.info? 79).map (fun i => (i.zero, i.size, i.bytes)) = some (some (.int .u32 0), 1, 4) := by kernel_rfl
/-- A block of noughts. -/
@[irreducible] def zrow (n : Nat) : Obj := .cells ((List.replicate n 0).map lv).toArray 79
theorem Row.zeros (w : World) (n : Nat) : Row (w.alloc (zrow n)) w.heap.size (List.replicate n 0) := by unfold zrow; exact Row.new w _ (lo_zeros n)
/-- What a loop has written, limb by limb. -/
theorem set_mid (p ss r : List Nat) (v o i : Nat) (ho : p.length = o) (hs : ss.length = i) (x : Nat) : (p ++ ss ++ (x :: r)).set (o + i) v = p ++ (ss ++ [v]) ++ r := by
  subst ho hs
  rw [List.append_assoc, List.set_append_right _ _ (by omega), Nat.add_sub_cancel_left, List.set_append_right _ _ (by omega), Nat.sub_self, List.set_cons_zero]
  simp
theorem set_part (zs ss : List Nat) (v o i : Nat) (hz : o + i < zs.length) (hs : ss.length = i) : (zs.take o ++ ss ++ zs.drop (o + i)).set (o + i) v = zs.take o ++ (ss ++ [v]) ++ zs.drop (o + (i + 1)) := by
  rw [List.drop_eq_getElem_cons hz, set_mid _ _ _ _ o i (by simp; omega) hs]
  rfl
theorem part_len (zs ss : List Nat) (o i : Nat) (hz : o + i ≤ zs.length) (hs : ss.length = i) : (zs.take o ++ ss ++ zs.drop (o + i)).length = zs.length := by simp; omega
theorem part_at (zs ss : List Nat) (o i : Nat) (hz : o + i < zs.length) (hs : ss.length = i) : (zs.take o ++ ss ++ zs.drop (o + i))[o + i]? = some zs[o + i] := by
  rw [List.getElem?_append_right (by simp; omega), List.length_append, hs, List.length_take, Nat.min_eq_left (by omega), Nat.sub_self, List.getElem?_drop, Nat.add_zero, List.getElem?_eq_getElem hz]
end Go.Proofs.Ytnkhgkpijfohkaa
namespace Go.Proofs.Ytnkhgkpijfohkaa
open Go.RowKit

/-- The limbs of a slice can be read, each, while those ahead of it are written over at o in block g. -/
def Src (w : World) (g o : Nat) (zs : List Nat) (A : Option Addr) (xs : List Nat) : Prop :=
  ∀ (i : Nat) (h : i < xs.length) (ss : List Nat) (W : World), ss.length = i → Turn w W g → Row W g (zs.take o ++ ss ++ zs.drop (o + i)) → ∃ ad, A = some ad ∧ W.cell? (ad.add i) = some (lv xs[i])
theorem Src.far {w : World} {g o : Nat} {zs : List Nat} {A : Option Addr} {n c : Nat} {xs : List Nat} (l : Lim w A n c xs) (hne : ∀ ad, A = some ad → ad.block ≠ g) : Src w g o zs A xs :=
  fun i h _ _ _ t _ => (t.lim l hne).at_ i h
theorem Src.same {w : World} {g o n : Nat} {zs : List Nat} (hz : o + n ≤ zs.length) : Src w g o zs (some ⟨g, o, none⟩) ((zs.drop o).take n) := by
  intro i h ss W hs _ r
  refine ⟨_, rfl, ?_⟩
  rw [add_lit]
  have h' : o + i < zs.length := by simp at h; omega
  rw [r.cell' (part_at zs ss o i h' hs)]
  simp

/-- What is in the loops of addInto. -/
structure Sum (w : World) (g o : Nat) (zs xs ys : List Nat) (i k : Nat) (wr : World) : Prop where
  ss : ∃ ss, ss.length = i ∧ Lo ss ∧ val ss + B ^ i * k = val (xs.take i) + val (ys.take i) ∧ Row wr g (zs.take o ++ ss ++ zs.drop (o + i))
  k1 : k ≤ 1
  t : Turn w wr g

theorem Sum.drew {w : World} {g o : Nat} {zs xs ys : List Nat} {i k : Nat} {wr : World} (h : Sum w g o zs xs ys i k wr) : Sum w g o zs xs ys i k wr.drew := by
  obtain ⟨ss, a, b, c, r⟩ := h.ss
  exact ⟨⟨ss, a, b, c, r.drew⟩, h.k1, h.t.drew⟩
theorem u32_mod (x y k : Nat) : Value.int IntKind.u32 (((x : Int) + (y : Int) + (k : Int)) % 4294967296) = lv ((x + y + k) % 4294967296) := congrArg (Value.int .u32) (by omega)
theorem u32_mod2 (x k : Nat) : Value.int IntKind.u32 (((x : Int) + (k : Int)) % 4294967296) = lv ((x + k) % 4294967296) := congrArg (Value.int .u32) (by omega)
theorem sum_step {P s x y k v c : Nat} (h : v + P * k = s) (e : x + y + k = c) : v + P * (c % 4294967296) + P * 4294967296 * (c / 4294967296) = s + P * x + P * y := by
  have e2 : c = c % 4294967296 + 4294967296 * (c / 4294967296) := by omega
  have : P * c = P * (c % 4294967296) + P * 4294967296 * (c / 4294967296) := by
    conv => lhs; rw [e2, Nat.mul_add, ← Nat.mul_assoc]
  rw [Nat.add_assoc, ← this, ← e, ← h, Nat.mul_add, Nat.mul_add]
  omega
theorem Sum.step {w : World} {g o : Nat} {zs xs ys : List Nat} {i k : Nat} {wr : World} (h : Sum w g o zs xs ys i k wr) (x y : Nat) (hx : x < 4294967296) (hy : y < 4294967296)
    (ex : val (xs.take (i + 1)) = val (xs.take i) + B ^ i * x) (ey : val (ys.take (i + 1)) = val (ys.take i) + B ^ i * y) (hz : o + i < zs.length) :
    Sum w g o zs xs ys (i + 1) ((x + y + k) / 4294967296) (wr.setCell ⟨g, o + i, none⟩ (lv ((x + y + k) % 4294967296))) := by
  obtain ⟨ss, hl, lo, hv, r⟩ := h.ss
  have hk := h.k1
  refine ⟨⟨ss ++ [(x + y + k) % 4294967296], by simp [hl], lo.append (.cons (Nat.mod_lt _ (by decide)) .nil), ?_, ?_⟩, by omega, h.t.setCell _ _⟩
  · rw [val_snoc, hl, ex, ey, Nat.pow_succ]
    have := sum_step (c := x + y + k) hv (x := x) (y := y) rfl
    rw [← B_eq] at this
    rw [B_eq] at *
    omega
  · have := r.set_ (o + i) ((x + y + k) % 4294967296) (Nat.mod_lt _ (by decide))
    rwa [set_part zs ss _ o i hz hl] at this

end Go.Proofs.Ytnkhgkpijfohkaa
namespace Go.Proofs.Ytnkhgkpijfohkaa
open Go.RowKit

theorem Src.old {w : World} {o : Nat} {zs : List Nat} {A : Option Addr} {n c : Nat} {xs : List Nat} (l : Lim w A n c xs) (ob : Obj) : Src (w.alloc ob) w.heap.size o zs A xs := by
  by_cases hn : 0 < n
  · exact Src.far (l.alloc ob) (fun ad e => l.new_ne ad e hn)
  · intro i h
    have := l.len
    omega
theorem sum_done {w w1 : World} {g n k : Nat} {xs ys : List Nat} (h : Sum w g 0 (List.replicate (n + 1) 0) xs ys n k w1) (hx : xs.length = n) (hy : ys.length ≤ n) :
    ∃ ss, ss.length = n + 1 ∧ val ss = val xs + val ys ∧ Row (w1.setCell ⟨g, n, none⟩ (lv k)) g ss := by
  obtain ⟨ss, hl, lo, hv, r⟩ := h.ss
  rw [List.take_of_length_le (by omega), List.take_of_length_le (by omega)] at hv
  have hk := h.k1
  have e : (List.replicate (n + 1) 0).take 0 ++ ss ++ (List.replicate (n + 1) 0).drop (0 + n) = ss ++ [0] := by simp
  rw [e] at r
  refine ⟨ss ++ [k], by simp [hl], by rw [val_snoc, hl, hv], ?_⟩
  have := r.set_ n k (by omega)
  rwa [List.set_append_right _ _ (by omega), hl, Nat.sub_self, List.set_cons_zero] at this

theorem RetN.lim {r : Nat} {w : World} {e : Ending} {w' : World} (h : RetN r w e w') : ∃ A n c, e = .returned (.slice A n c) ∧ Lim w' A n c (limbs r) ∧ Below w.heap.size w w' := h
/-- Refused: what is no natural. -/
def NoTwo (xs ys : List Nat) : Prop := ¬ (Nt xs ∧ Nt ys)
end Go.Proofs.Ytnkhgkpijfohkaa
namespace Go.Proofs.Ytnkhgkpijfohkaa
open Go.RowKit

/-- What is in the loops of difference. -/
structure Dif (w : World) (g n : Nat) (xs ys : List Nat) (i k : Nat) (wr : World) : Prop where
  ss : ∃ ss, ss.length = i ∧ Lo ss ∧ val (xs.take i) + B ^ i * k = val ss + val (ys.take i) ∧ Row wr g (ss ++ (List.replicate n 0).drop i)
  k1 : k ≤ 1
  t : Turn w wr g
theorem Dif.drew {w : World} {g n : Nat} {xs ys : List Nat} {i k : Nat} {wr : World} (h : Dif w g n xs ys i k wr) : Dif w g n xs ys i k wr.drew := by
  obtain ⟨ss, a, b, c, r⟩ := h.ss
  exact ⟨⟨ss, a, b, c, r.drew⟩, h.k1, h.t.drew⟩
theorem dif_limb (x y k : Nat) (hx : x < 4294967296) (hy : y < 4294967296) (hk : k ≤ 1) : x + 4294967296 * bor x (y + k) = (x + 8589934592 - y - k) % 4294967296 + y + k := by
  by_cases h : x < y + k
  · rw [bor_yes h]; omega
  · rw [bor_no h]; omega
theorem dif_step {P s t v x y k b d : Nat} (h : s + P * k = v + t) (e : x + 4294967296 * b = d + y + k) : s + P * x + P * 4294967296 * b = v + P * d + (t + P * y) := by
  have : P * x + P * 4294967296 * b = P * d + P * y + P * k := by
    rw [Nat.mul_assoc, ← Nat.mul_add, e, Nat.mul_add, Nat.mul_add]
  omega
theorem Dif.step {w : World} {g n : Nat} {xs ys : List Nat} {i k : Nat} {wr : World} (h : Dif w g n xs ys i k wr) (x y : Nat) (hx : x < 4294967296) (hy : y < 4294967296)
    (ex : val (xs.take (i + 1)) = val (xs.take i) + B ^ i * x) (ey : val (ys.take (i + 1)) = val (ys.take i) + B ^ i * y) (hz : i < n) :
    Dif w g n xs ys (i + 1) (bor x (y + k)) (wr.setCell ⟨g, i, none⟩ (lv ((x + 8589934592 - y - k) % 4294967296))) := by
  obtain ⟨ss, hl, lo, hv, r⟩ := h.ss
  have hk := h.k1
  refine ⟨⟨ss ++ [(x + 8589934592 - y - k) % 4294967296], by simp [hl], lo.append (.cons (Nat.mod_lt _ (by decide)) .nil), ?_, ?_⟩, bor_le _ _, h.t.setCell _ _⟩
  · rw [val_snoc, hl, ex, ey, Nat.pow_succ]
    have := dif_step hv (dif_limb x y k hx hy hk)
    rw [B_eq] at *
    omega
  · have := r.set_ i ((x + 8589934592 - y - k) % 4294967296) (Nat.mod_lt _ (by decide))
    have e := set_part (List.replicate n 0) ss ((x + 8589934592 - y - k) % 4294967296) 0 i (by simp; omega) hl
    simp only [List.take_zero, List.nil_append, Nat.zero_add] at e
    rwa [e] at this
theorem Dif.cell {w : World} {g n : Nat} {xs ys : List Nat} {i k : Nat} {wr : World} (h : Dif w g n xs ys i k wr) (hi : i < n) : wr.cell? ⟨g, i, none⟩ = some (lv 0) ∧ wr.frozen? ⟨g, i, none⟩ = false := by
  obtain ⟨ss, hl, lo, hv, r⟩ := h.ss
  refine ⟨?_, r.melt _⟩
  have := part_at (List.replicate n 0) ss 0 i (by simp; omega) hl
  simp only [List.take_zero, List.nil_append, Nat.zero_add, List.getElem_replicate] at this
  exact r.cell' this
theorem Dif.done {w : World} {g n : Nat} {xs ys : List Nat} {k : Nat} {wr : World} (h : Dif w g n xs ys n k wr) (hx : xs.length = n) (hy : ys.length ≤ n) (hle : val ys ≤ val xs) :
    ∃ ss, ss.length = n ∧ val ss = val xs - val ys ∧ Row wr g ss := by
  obtain ⟨ss, hl, lo, hv, r⟩ := h.ss
  rw [List.take_of_length_le (by omega), List.take_of_length_le (by omega)] at hv
  have e : ss ++ (List.replicate n 0).drop n = ss := by simp
  rw [e] at r
  refine ⟨ss, hl, ?_, r⟩
  have l := val_lt lo
  rw [hl] at l
  have hk := h.k1
  have : k = 0 ∨ k = 1 := by omega
  rcases this with rfl | rfl
  · omega
  · rw [Nat.mul_one] at hv; omega
theorem u32_sub (x y k : Nat) (hx : x < 4294967296) (hy : y < 4294967296) (hk : k ≤ 1) : ((((x + 8589934592 - y - k) % 4294967296 : Nat)) : Int) = ((x : Int) + 8589934592 - y - k) % 4294967296 := by omega

end Go.Proofs.Ytnkhgkpijfohkaa
namespace Go.Proofs.Ytnkhgkpijfohkaa
open Go.RowKit

theorem val_set (ps : List Nat) (k v : Nat) (h : k < ps.length) : val (ps.set k v) + B ^ k * ps[k] = val ps + B ^ k * v := by
  induction ps generalizing k with
  | nil => simp at h
  | cons x r ih =>
    cases k with
    | zero => simp [val_cons]; omega
    | succ k =>
      have := ih k (by simpa using h)
      simp only [List.set_cons_succ, val_cons, List.getElem_cons_succ, Nat.pow_succ]
      have e : B * (val (r.set k v) + B ^ k * r[k]'(by simpa using h)) = B * (val r + B ^ k * v) := by rw [this]
      rw [Nat.mul_add, Nat.mul_add, ← Nat.mul_assoc, ← Nat.mul_assoc, Nat.mul_comm B (B ^ k)] at e
      omega
theorem cast_div (x y p k : Nat) : ((x : Int) * (y : Int) + (p : Int) + (k : Int)) / 4294967296 = (((x * y + p + k) / 4294967296 : Nat) : Int) := by
  rw [← Int.natCast_mul]; generalize x * y = q; omega
theorem cast_mod (x y p k : Nat) : ((x : Int) * (y : Int) + (p : Int) + (k : Int)) % 4294967296 = (((x * y + p + k) % 4294967296 : Nat) : Int) := by
  rw [← Int.natCast_mul]; generalize x * y = q; omega
/-- What is in the loops of product. -/
structure Prd (w : World) (g N : Nat) (xs ys : List Nat) (x i j k : Nat) (wr : World) : Prop where
  ps : ∃ ps, ps.length = N ∧ val ps + B ^ (i + j) * k = val (xs.take i) * val ys + B ^ i * x * val (ys.take j) ∧ (∀ t, i + ys.length ≤ t → t < N → ps[t]? = some 0) ∧ Row wr g ps
  kb : k < 4294967296
  t : Turn w wr g
theorem prd_step {P V S p x y k T v : Nat} (h : V + P * k = S) (e : v + P * p = V + P * (T % 4294967296)) (ht : T = x * y + p + k) : v + P * 4294967296 * (T / 4294967296) = S + P * (x * y) := by
  have e2 : T = T % 4294967296 + 4294967296 * (T / 4294967296) := by omega
  have e3 : P * T = P * (T % 4294967296) + P * 4294967296 * (T / 4294967296) := by
    conv => lhs; rw [e2, Nat.mul_add, ← Nat.mul_assoc]
  have e4 : P * T = P * (x * y) + P * p + P * k := by rw [ht, Nat.mul_add, Nat.mul_add]
  omega
theorem Prd.step {w : World} {g N : Nat} {xs ys : List Nat} {x i j k : Nat} {wr : World} (h : Prd w g N xs ys x i j k wr) (y : Nat) (hx : x < 4294967296) (hy : y < 4294967296) (hj : j < ys.length)
    (ey : val (ys.take (j + 1)) = val (ys.take j) + B ^ j * y) (hN : i + ys.length < N) :
    ∃ p, p < 4294967296 ∧ wr.cell? ⟨g, i + j, none⟩ = some (lv p) ∧ wr.frozen? ⟨g, i + j, none⟩ = false ∧
      Prd w g N xs ys x i (j + 1) ((x * y + p + k) / 4294967296) (wr.setCell ⟨g, i + j, none⟩ (lv ((x * y + p + k) % 4294967296))) := by
  obtain ⟨ps, hl, hv, hz, r⟩ := h.ps
  have hk := h.kb
  have hij : i + j < ps.length := by omega
  have hp := r.lo.at_ _ hij
  have hxy : x * y ≤ 4294967295 * 4294967295 := Nat.mul_le_mul (by omega) (by omega)
  refine ⟨ps[i + j], hp, r.cell _ hij, r.melt _, ⟨ps.set (i + j) ((x * y + ps[i + j] + k) % 4294967296), by simp [hl], ?_, ?_, r.set_ _ _ (Nat.mod_lt _ (by decide))⟩, ?_, h.t.setCell _ _⟩
  · have e := val_set ps (i + j) ((x * y + ps[i + j] + k) % 4294967296) hij
    have := prd_step hv e rfl
    rw [← Nat.add_assoc, Nat.pow_succ, ey]
    rw [show B ^ (i + j) * B = B ^ (i + j) * 4294967296 by rw [B_eq]]
    rw [this, Nat.mul_add, Nat.pow_add, Nat.add_assoc]
    congr 1
    congr 1
    rw [Nat.mul_assoc, Nat.mul_assoc, Nat.mul_left_comm x, ]
  · intro t h1 h2
    rw [List.getElem?_set_ne (by omega)]
    exact hz t h1 h2
  · generalize x * y = q at *
    omega
theorem Prd.turn {w : World} {g N : Nat} {xs ys : List Nat} {x i k : Nat} {wr : World} (h : Prd w g N xs ys x i ys.length k wr) (hi : i < xs.length) (hx : xs[i] = x) (hN : i + ys.length < N) (x' : Nat) :
    wr.cell? ⟨g, i + ys.length, none⟩ = some (lv 0) ∧ wr.frozen? ⟨g, i + ys.length, none⟩ = false ∧ Prd w g N xs ys x' (i + 1) 0 0 (wr.setCell ⟨g, i + ys.length, none⟩ (lv k)) := by
  obtain ⟨ps, hl, hv, hz, r⟩ := h.ps
  have hk := h.kb
  have h0 := hz (i + ys.length) (Nat.le_refl _) hN
  have hij : i + ys.length < ps.length := by omega
  have hp : ps[i + ys.length] = 0 := (List.getElem?_eq_some_iff.1 h0).2
  refine ⟨r.cell' h0, r.melt _, ⟨ps.set (i + ys.length) k, by simp [hl], ?_, ?_, r.set_ _ _ hk⟩, by omega, h.t.setCell _ _⟩
  · have e := val_set ps (i + ys.length) k hij
    rw [hp, Nat.mul_zero, Nat.add_zero] at e
    rw [e, hv, List.take_of_length_le (Nat.le_refl _), val_take_succ xs i hi, hx, Nat.add_mul, Nat.mul_zero, Nat.add_zero, List.take_zero, val_nil, Nat.mul_zero, Nat.add_zero]
  · intro t h1 h2
    rw [List.getElem?_set_ne (by omega)]
    exact hz t (by omega) h2

end Go.Proofs.Ytnkhgkpijfohkaa
namespace Go.Proofs.Ytnkhgkpijfohkaa
open Go.RowKit
set_option linter.unusedVariables false
set_option linter.unusedSimpArgs false

theorem Row.new_of (w : World) (xs : List Nat) (vs : Array Value) (h : Lo xs) (e : vs = (xs.map lv).toArray) : Row (w.alloc (.cells vs 79)) w.heap.size xs := by
  subst e; exact Row.new w xs h
theorem four_val (h l : Nat) : val [l % 4294967296, l / 4294967296, h % 4294967296, h / 4294967296] = h * 18446744073709551616 + l := by
  rw [val_cons, val_cons, val_cons, val_cons, val_nil, B_eq]; omega

/-- A natural, and a limb. -/
def RetQ (q r : Nat) (w : World) (e : Ending) (w' : World) : Prop := ∃ A n c, e = .returned (.tuple #[.slice A n c, lv r]) ∧ Lim w' A n c (limbs q) ∧ Below w.heap.size w w'
/-- .. and where the natural lies. -/
def RetQ2 (q r : Nat) (w : World) (e : Ending) (w' : World) : Prop := ∃ A n c, e = .returned (.tuple #[.slice A n c, lv r]) ∧ Lim w' A n c (limbs q) ∧ (∀ ad, A = some ad → ad.block = w.heap.size) ∧ Below w.heap.size w w'
/-- What is in the loop of divShort. -/
structure Dsh (w : World) (g n : Nat) (xs : List Nat) (b i r : Nat) (wr : World) : Prop where
  qs : ∃ qs, qs.length + i = n ∧ val (xs.drop i) = val qs * b + r ∧ Row wr g (List.replicate i 0 ++ qs)
  rb : r < b
  t : Turn w wr g
theorem Dsh.drewN {w : World} {g n : Nat} {xs : List Nat} {b i r : Nat} {wr : World} (h : Dsh w g n xs b i r wr) (m : Nat) : Dsh w g n xs b i r (wr.drewN m) := by
  obtain ⟨qs, a, c, R⟩ := h.qs
  exact ⟨⟨qs, a, c, R.drewN m⟩, h.rb, h.t.drewN m⟩
theorem dsh_step {N Q b r B' x T : Nat} (h : N = Q * b + r) (ht : T = r * B' + x) : x + B' * N = (T / b + B' * Q) * b + T % b := by
  have e := Nat.div_add_mod T b
  rw [h, Nat.add_mul, Nat.mul_add, ← Nat.mul_assoc, Nat.mul_comm (T / b) b]
  rw [Nat.mul_comm B' r]
  omega
theorem Dsh.step {w : World} {g n : Nat} {xs : List Nat} {b i r : Nat} {wr : World} (h : Dsh w g n xs b (i + 1) r wr) (hb : b < 4294967296) (hi : i < xs.length) (lx : Lo xs) (hn : i < n) :
    wr.cell? ⟨g, i, none⟩ = some (lv 0) ∧ wr.frozen? ⟨g, i, none⟩ = false ∧
      Dsh w g n xs b i ((r * 4294967296 + xs[i]) % b) (wr.setCell ⟨g, i, none⟩ (lv ((r * 4294967296 + xs[i]) / b))) := by
  obtain ⟨qs, hl, hv, R⟩ := h.qs
  have hr := h.rb
  have hx := lx.at_ i hi
  have hq : (r * 4294967296 + xs[i]) / b < 4294967296 := by
    rw [Nat.div_lt_iff_lt_mul (by omega)]
    have : (r + 1) * 4294967296 ≤ b * 4294967296 := Nat.mul_le_mul_right _ hr
    rw [Nat.mul_comm b] at this
    omega
  have e0 : List.replicate (i + 1) 0 ++ qs = List.replicate i 0 ++ (0 :: qs) := by
    rw [List.replicate_succ', List.append_assoc]; rfl
  rw [e0] at R
  refine ⟨?_, R.melt _, ⟨((r * 4294967296 + xs[i]) / b) :: qs, by simp; omega, ?_, ?_⟩, Nat.mod_lt _ (by omega), h.t.setCell _ _⟩
  · exact R.cell' (by rw [List.getElem?_append_right (by simp)]; simp)
  · rw [val_drop xs i hi, val_cons]
    exact dsh_step hv (by rw [B_eq])
  · have := R.set_ i ((r * 4294967296 + xs[i]) / b) hq
    rwa [List.set_append_right _ _ (by simp), List.length_replicate, Nat.sub_self, List.set_cons_zero] at this

end Go.Proofs.Ytnkhgkpijfohkaa
namespace Go.Proofs.Ytnkhgkpijfohkaa
open Go.RowKit
set_option linter.unusedVariables false
set_option linter.unusedSimpArgs false

/-- A new block of n + 1 limbs of the number v. -/
def RetS (n v : Nat) (w : World) (e : Ending) (w' : World) : Prop := ∃ ss, e = .returned (.slice (some ⟨w.heap.size, 0, none⟩) (n + 1) (n + 1)) ∧ ss.length = n + 1 ∧ val ss = v ∧ Row w' w.heap.size ss ∧ Below w.heap.size w w'
/-- What is in the loop of shifted. -/
structure Shf (w : World) (g n : Nat) (xs : List Nat) (s i : Nat) (wr : World) : Prop where
  ss : ∃ ss y, ss.length = i ∧ y < 2 ^ s ∧ val ss + B ^ i * y = val (xs.take i) * 2 ^ s ∧ Row wr g (ss ++ y :: List.replicate (n - i) 0)
  t : Turn w wr g
theorem pow32 {s : Nat} (h : s ≤ 32) : 2 ^ s * 2 ^ (32 - s) = 4294967296 := by rw [← Nat.pow_add, Nat.add_sub_cancel' h]
/-- The lower half of a shifted limb. -/
theorem low_shift (x s : Nat) (h : s ≤ 32) : x * 2 ^ s % 4294967296 = 2 ^ s * (x % 2 ^ (32 - s)) := by
  rw [← pow32 h, Nat.mul_comm x, Nat.mul_mod_mul_left]
theorem or_low (x y s : Nat) (h : s ≤ 32) (hy : y < 2 ^ s) : y ||| (x * 2 ^ s % 4294967296) = y + x * 2 ^ s % 4294967296 := by
  rw [low_shift x s h, Nat.or_comm, Nat.mul_comm, or_apart _ _ _ hy, Nat.add_comm]
theorem or_low_lt (x y s : Nat) (h : s ≤ 32) (hy : y < 2 ^ s) : y + x * 2 ^ s % 4294967296 < 4294967296 := by
  rw [low_shift x s h]
  have e := pow32 h
  have l : x % 2 ^ (32 - s) < 2 ^ (32 - s) := Nat.mod_lt _ (Nat.two_pow_pos _)
  have : 2 ^ s * (x % 2 ^ (32 - s) + 1) ≤ 2 ^ s * 2 ^ (32 - s) := Nat.mul_le_mul_left _ l
  rw [Nat.mul_add, e] at this
  omega
theorem high_shift (x s : Nat) (h : s ≤ 32) (hx : x < 4294967296) : x * 2 ^ s / 4294967296 < 2 ^ s := by
  rw [Nat.div_lt_iff_lt_mul (by decide), Nat.mul_comm]
  exact Nat.mul_lt_mul_of_pos_left hx (Nat.two_pow_pos s)
theorem shl_nat (x s : Nat) (hs : s ≤ 32) (hx : x < 4294967296) : IntKind.u64.wrap ((x : Int) * 2 ^ s) = ((x * 2 ^ s : Nat) : Int) := by
  have e : (x : Int) * 2 ^ s = ((x * 2 ^ s : Nat) : Int) := by rw [Int.natCast_mul, Int.natCast_pow]; rfl
  have k : x * 2 ^ s ≤ 4294967296 * 4294967296 - 1 := by
    have k3 : 2 ^ s ≤ 4294967296 := by rw [← pow32 hs]; exact Nat.le_mul_of_pos_right _ (Nat.two_pow_pos _)
    have : x * 2 ^ s ≤ 4294967295 * 4294967296 := Nat.mul_le_mul (by omega) k3
    omega
  rw [e, IntKind.wrap_u64]
  generalize x * 2 ^ s = q at *
  omega
theorem shl_or (x y s : Nat) (hs : s ≤ 32) (hx : x < 4294967296) (hy : y < 2 ^ s) : bits BinOp.or IntKind.u32 (y : Int) (IntKind.u64.wrap ((x : Int) * 2 ^ s) % 4294967296) = ((y + x * 2 ^ s % 4294967296 : Nat) : Int) := by
  have k3 : 2 ^ s ≤ 4294967296 := by rw [← pow32 hs]; exact Nat.le_mul_of_pos_right _ (Nat.two_pow_pos _)
  rw [shl_nat x s hs hx, ← or_low x y s hs hy, show ((x * 2 ^ s : Nat) : Int) % 4294967296 = ((x * 2 ^ s % 4294967296 : Nat) : Int) from rfl]
  exact u32_or_nat _ _ (by omega) (Nat.mod_lt _ (by decide))
theorem shl_high (x s : Nat) (hs : s ≤ 32) (hx : x < 4294967296) : IntKind.u64.wrap ((x : Int) * 2 ^ s) / 4294967296 % 4294967296 = ((x * 2 ^ s / 4294967296 : Nat) : Int) := by
  have k3 : 2 ^ s ≤ 4294967296 := by rw [← pow32 hs]; exact Nat.le_mul_of_pos_right _ (Nat.two_pow_pos _)
  have k := high_shift x s hs hx
  rw [shl_nat x s hs hx]
  generalize x * 2 ^ s = q at *
  omega
theorem shf_step {P V y S x t : Nat} (h : V + P * y = S) : V + P * (y + t % 4294967296) + P * 4294967296 * (t / 4294967296) = S + P * t := by
  have e2 : t = t % 4294967296 + 4294967296 * (t / 4294967296) := by omega
  have e3 : P * t = P * (t % 4294967296) + P * 4294967296 * (t / 4294967296) := by
    conv => lhs; rw [e2, Nat.mul_add, ← Nat.mul_assoc]
  rw [Nat.mul_add]
  omega
theorem Shf.step {w : World} {g n : Nat} {xs : List Nat} {s i : Nat} {wr : World} (h : Shf w g n xs s i wr) (hs : s ≤ 32) (hi : i < xs.length) (hn : xs.length = n) (lx : Lo xs) :
    ∃ y, y < 2 ^ s ∧ wr.cell? ⟨g, i, none⟩ = some (lv y) ∧ wr.cell? ⟨g, i + 1, none⟩ = some (lv 0) ∧ wr.frozen? ⟨g, i, none⟩ = false ∧ wr.frozen? ⟨g, i + 1, none⟩ = false ∧
      Shf w g n xs s (i + 1) ((wr.setCell ⟨g, i, none⟩ (lv (y + xs[i] * 2 ^ s % 4294967296))).setCell ⟨g, i + 1, none⟩ (lv (xs[i] * 2 ^ s / 4294967296))) := by
  obtain ⟨ss, y, hl, hy, hv, R⟩ := h.ss
  have hx := lx.at_ i hi
  have e0 : List.replicate (n - i) 0 = 0 :: List.replicate (n - (i + 1)) 0 := by
    rw [show n - i = n - (i + 1) + 1 by omega, List.replicate_succ]
  rw [e0] at R
  have k1 := or_low_lt xs[i] y s hs hy
  have k2 := high_shift xs[i] s hs hx
  have k3 : 2 ^ s ≤ 4294967296 := by rw [← pow32 hs]; exact Nat.le_mul_of_pos_right _ (Nat.two_pow_pos _)
  refine ⟨y, hy, R.cell' ?_, R.cell' ?_, R.melt _, R.melt _, ⟨ss ++ [y + xs[i] * 2 ^ s % 4294967296], xs[i] * 2 ^ s / 4294967296, by simp [hl], k2, ?_, ?_⟩, (h.t.setCell _ _).setCell _ _⟩
  · rw [List.getElem?_append_right (by omega), hl, Nat.sub_self]; rfl
  · rw [List.getElem?_append_right (by omega), hl, show i + 1 - i = 1 by omega]; rfl
  · rw [val_snoc, hl, val_take_succ xs i hi, Nat.pow_succ, Nat.add_mul, Nat.mul_assoc (B ^ i) xs[i], show B ^ i * B = B ^ i * 4294967296 by rw [B_eq]]
    exact shf_step (x := 0) hv
  · have R2 := (R.set_ i _ k1).set_ (i + 1) (xs[i] * 2 ^ s / 4294967296) (by omega)
    rw [List.set_append_right _ _ (by omega), hl, Nat.sub_self, List.set_cons_zero, List.set_append_right _ _ (by omega), hl, show i + 1 - i = 0 + 1 by omega, List.set_cons_succ, List.set_cons_zero] at R2
    rw [List.append_assoc]
    exact R2

/-- What is in the loop of shiftedBack. -/
structure Shb (w : World) (g n : Nat) (xs : List Nat) (s i : Nat) (wr : World) : Prop where
  ss : ∃ ss, ss.length + i = n ∧ val ss = val (xs.drop i) / 2 ^ s ∧ Row wr g (List.replicate i 0 ++ ss)
  t : Turn w wr g
theorem shr_cast (t s : Nat) : (t : Int) / 2 ^ s % 4294967296 = ((t / 2 ^ s % 4294967296 : Nat) : Int) := by
  have e : (2 : Int) ^ s = ((2 ^ s : Nat) : Int) := by rw [Int.natCast_pow]; rfl
  rw [e]
  rfl
theorem shb_math (x N s : Nat) (hs : s ≤ 32) (hx : x < 4294967296) : ((N % 4294967296 * 4294967296 + x) / 2 ^ s) % 4294967296 + 4294967296 * (N / 2 ^ s) = (x + 4294967296 * N) / 2 ^ s := by
  have e := pow32 hs
  have p := Nat.two_pow_pos s
  obtain ⟨r, hr⟩ : ∃ r, N % 2 ^ s = r := ⟨_, rfl⟩
  have hr2 : r < 2 ^ s := by rw [← hr]; exact Nat.mod_lt _ p
  have eN := Nat.div_add_mod N (2 ^ s)
  rw [hr] at eN
  have k1 : (x + 4294967296 * N) / 2 ^ s = 4294967296 * (N / 2 ^ s) + (x + 4294967296 * r) / 2 ^ s := by
    conv => lhs; rw [← eN, Nat.mul_add, ← Nat.add_assoc, Nat.add_right_comm, Nat.mul_left_comm, Nat.add_mul_div_left _ _ p, Nat.add_comm]
  have k2 : (x + 4294967296 * r) / 2 ^ s < 4294967296 := by
    rw [Nat.div_lt_iff_lt_mul p]
    have : 4294967296 * (r + 1) ≤ 4294967296 * 2 ^ s := Nat.mul_le_mul_left _ hr2
    omega
  have k3 : N % 4294967296 = r + 2 ^ s * ((N % 4294967296) / 2 ^ s) := by
    have a := Nat.div_add_mod (N % 4294967296) (2 ^ s)
    have b : N % 4294967296 % 2 ^ s = r := by
      rw [← e, Nat.mod_mul_right_mod, hr]
    omega
  have k4 : (N % 4294967296 * 4294967296 + x) / 2 ^ s = (x + 4294967296 * r) / 2 ^ s + 4294967296 * ((N % 4294967296) / 2 ^ s) := by
    generalize N % 4294967296 / 2 ^ s = m at *
    rw [k3, Nat.add_mul, Nat.mul_assoc, Nat.add_right_comm, Nat.add_mul_div_left _ _ p, Nat.mul_comm m, Nat.mul_comm r, Nat.add_comm x]
  rw [k4, k1, Nat.add_mul_mod_self_left, Nat.mod_eq_of_lt k2, Nat.add_comm]
theorem Shb.step {w : World} {g n : Nat} {xs : List Nat} {s i : Nat} {wr : World} (h : Shb w g n xs s (i + 1) wr) (hs : s ≤ 32) (hi : i < xs.length) (lx : Lo xs) (u : Nat) (hu : u % 4294967296 = val (xs.drop (i + 1)) % 4294967296) :
    wr.cell? ⟨g, i, none⟩ = some (lv 0) ∧ wr.frozen? ⟨g, i, none⟩ = false ∧
      Shb w g n xs s i (wr.setCell ⟨g, i, none⟩ (lv ((u % 4294967296 * 4294967296 + xs[i]) / 2 ^ s % 4294967296))) ∧ (u % 4294967296 * 4294967296 + xs[i]) % 4294967296 = val (xs.drop i) % 4294967296 := by
  obtain ⟨ss, hl, hv, R⟩ := h.ss
  have hx := lx.at_ i hi
  have e0 : List.replicate (i + 1) 0 ++ ss = List.replicate i 0 ++ (0 :: ss) := by
    rw [List.replicate_succ', List.append_assoc]; rfl
  rw [e0] at R
  have e1 := val_drop xs i hi
  rw [B_eq] at e1
  refine ⟨R.cell' ?_, R.melt _, ⟨⟨((u % 4294967296 * 4294967296 + xs[i]) / 2 ^ s % 4294967296) :: ss, by simp; omega, ?_, ?_⟩, h.t.setCell _ _⟩, ?_⟩
  · rw [List.getElem?_append_right (by simp)]; simp
  · rw [val_cons, hv, e1, B_eq, hu]
    exact shb_math xs[i] (val (xs.drop (i + 1))) s hs hx
  · have := R.set_ i ((u % 4294967296 * 4294967296 + xs[i]) / 2 ^ s % 4294967296) (Nat.mod_lt _ (by decide))
    rwa [List.set_append_right _ _ (by simp), List.length_replicate, Nat.sub_self, List.set_cons_zero] at this
  · rw [e1]; omega

end Go.Proofs.Ytnkhgkpijfohkaa
namespace Go.Proofs.Ytnkhgkpijfohkaa
open Go.RowKit
set_option linter.unusedVariables false
set_option linter.unusedSimpArgs false

/-- What is in the loop of takeTimes. -/
structure Tak (w : World) (g o : Nat) (zs ys : List Nat) (f i k b : Nat) (wr : World) : Prop where
  ss : ∃ ss, ss.length = i ∧ Lo ss ∧ val ss + val (ys.take i) * f = val ((zs.drop o).take i) + B ^ i * (k + b) ∧ Row wr g (zs.take o ++ ss ++ zs.drop (o + i))
  kb : k < 4294967296
  bb : b ≤ 1
  t : Turn w wr g
theorem Tak.drew {w : World} {g o : Nat} {zs ys : List Nat} {f i k b : Nat} {wr : World} (h : Tak w g o zs ys f i k b wr) : Tak w g o zs ys f i k b wr.drew := by
  obtain ⟨ss, a, c, d, r⟩ := h.ss
  exact ⟨⟨ss, a, c, d, r.drew⟩, h.kb, h.bb, h.t.drew⟩
theorem tak_step {P V Y Z f x k b z T d b2 : Nat} (h : V + Y * f = Z + P * (k + b)) (ht : T = x * f + k) (hz : z + 4294967296 * b2 = d + T % 4294967296 + b) :
    V + P * d + (Y + P * x) * f = Z + P * z + P * 4294967296 * (T / 4294967296 + b2) := by
  have e : k + b + d + x * f = z + 4294967296 * (T / 4294967296 + b2) := by omega
  have e2 : P * (k + b) + P * d + P * (x * f) = P * z + P * 4294967296 * (T / 4294967296 + b2) := by
    rw [← Nat.mul_add, ← Nat.mul_add, e, Nat.mul_add, ← Nat.mul_assoc]
  rw [Nat.add_mul, Nat.mul_assoc]
  omega
theorem Tak.step {w : World} {g o : Nat} {zs ys : List Nat} {f i k b : Nat} {wr : World} (h : Tak w g o zs ys f i k b wr) (x : Nat) (hx : x < 4294967296) (hf : f < 4294967296)
    (ex : val (ys.take (i + 1)) = val (ys.take i) + B ^ i * x) (hz : o + i < zs.length) (lz : Lo zs) :
    wr.cell? ⟨g, o + i, none⟩ = some (lv zs[o + i]) ∧ wr.frozen? ⟨g, o + i, none⟩ = false ∧
    Tak w g o zs ys f (i + 1) ((x * f + k) / 4294967296) (bor zs[o + i] ((x * f + k) % 4294967296 + b)) (wr.setCell ⟨g, o + i, none⟩ (lv ((zs[o + i] + 8589934592 - (x * f + k) % 4294967296 - b) % 4294967296))) := by
  obtain ⟨ss, hl, lo, hv, r⟩ := h.ss
  have hk := h.kb
  have hb := h.bb
  have hzz := lz.at_ (o + i) hz
  have hxf : x * f ≤ 4294967295 * 4294967295 := Nat.mul_le_mul (by omega) (by omega)
  refine ⟨r.cell' (part_at zs ss o i hz hl), r.melt _, ⟨ss ++ [(zs[o + i] + 8589934592 - (x * f + k) % 4294967296 - b) % 4294967296], by simp [hl], lo.append (.cons (Nat.mod_lt _ (by decide)) .nil), ?_, ?_⟩, ?_, bor_le _ _, h.t.setCell _ _⟩
  · have hi : i < (zs.drop o).length := by simp; omega
    have e2 := val_take_succ (zs.drop o) i hi
    rw [List.getElem_drop] at e2
    rw [val_snoc, hl, ex, e2, Nat.pow_succ, show B ^ i * B = B ^ i * 4294967296 by rw [B_eq]]
    exact tak_step hv rfl (dif_limb _ _ _ hzz (Nat.mod_lt _ (by decide)) hb)
  · have := r.set_ (o + i) ((zs[o + i] + 8589934592 - (x * f + k) % 4294967296 - b) % 4294967296) (Nat.mod_lt _ (by decide))
    rwa [set_part zs ss _ o i hz hl] at this
  · generalize x * f = q at *
    omega
/-- What takeTimes leaves. -/
def RetT (w : World) (g o : Nat) (zs ys : List Nat) (f m : Nat) (e : Ending) (w' : World) : Prop := ∃ b : Nat, e = .returned (.bool ((b : Int) != 0)) ∧ Tak w g o zs ys f (m + 1) 0 b w'
theorem cast_div2 (x f k : Nat) : ((x : Int) * (f : Int) + (k : Int)) / 4294967296 = (((x * f + k) / 4294967296 : Nat) : Int) := by
  rw [← Int.natCast_mul]; generalize x * f = q; omega
theorem cast_mod2 (x f k : Nat) : ((x : Int) * (f : Int) + (k : Int)) % 4294967296 = (((x * f + k) % 4294967296 : Nat) : Int) := by
  rw [← Int.natCast_mul]; generalize x * f = q; omega

end Go.Proofs.Ytnkhgkpijfohkaa
namespace Go.Proofs.Ytnkhgkpijfohkaa
open Go.RowKit
set_option linter.unusedVariables false
set_option linter.unusedSimpArgs false

theorem guess_ge {P U V lu lv u v q : Nat} (hU : U = lu + P * u) (hV : V = lv + P * v) (hl : lu < P) (hq : q * V ≤ U) : q * v ≤ u := by
  apply Decidable.byContradiction
  intro h
  have h1 : u + 1 ≤ q * v := by omega
  have h2 : P * (u + 1) ≤ P * (q * v) := Nat.mul_le_mul_left _ h1
  have h3 : P * (q * v) ≤ q * V := by
    rw [hV, Nat.mul_add, ← Nat.mul_left_comm]
    omega
  rw [Nat.mul_add] at h2
  omega
/-- What is in the loop of takeOut. -/
structure Out (w : World) (g o : Nat) (zs : List Nat) (m U V G : Nat) (d : Bool) (wr : World) : Prop where
  ss : ∃ ss, ss.length = m + 1 ∧ Lo ss ∧ val ss + V * G = U + (if d = true then B ^ (m + 1) else 0) ∧ Row wr g (zs.take o ++ ss ++ zs.drop (o + (m + 1)))
  ge : U / V ≤ G
  lt : G < 4294967296
  t : Turn w wr g
/-- What takeOut leaves. -/
def RetO (w : World) (g o : Nat) (zs : List Nat) (m U V : Nat) (e : Ending) (w' : World) : Prop := ∃ ss, e = .returned (lv (U / V)) ∧ ss.length = m + 1 ∧ val ss = U % V ∧ Row w' g (zs.take o ++ ss ++ zs.drop (o + (m + 1))) ∧ Turn w w' g

theorem Out.done {w : World} {g o : Nat} {zs : List Nat} {m U V G : Nat} {wr : World} (h : Out w g o zs m U V G false wr) (hV : 0 < V) : G = U / V ∧ ∃ ss, ss.length = m + 1 ∧ val ss = U % V ∧ Row wr g (zs.take o ++ ss ++ zs.drop (o + (m + 1))) := by
  obtain ⟨ss, hl, lo, hv, r⟩ := h.ss
  have hge := h.ge
  simp only [Bool.false_eq_true, if_false, Nat.add_zero] at hv
  have h1 : G ≤ U / V := (Nat.le_div_iff_mul_le hV).2 (by rw [Nat.mul_comm]; omega)
  have e : G = U / V := by omega
  refine ⟨e, ss, hl, ?_, r⟩
  have := Nat.div_add_mod U V
  rw [← e] at this
  omega
theorem Out.pos {w : World} {g o : Nat} {zs : List Nat} {m U V G : Nat} {wr : World} (h : Out w g o zs m U V G true wr) (hV : 0 < V) : U / V < G := by
  obtain ⟨ss, hl, lo, hv, r⟩ := h.ss
  have l := val_lt lo
  rw [hl] at l
  simp only [if_true] at hv
  rw [Nat.div_lt_iff_lt_mul hV, Nat.mul_comm]
  omega
theorem take_all (zs ss : List Nat) (o m : Nat) (ho : o ≤ zs.length) (hl : ss.length = m + 1) : (zs.take o ++ ss ++ zs.drop (o + (m + 1))).take o = zs.take o ∧ (zs.take o ++ ss ++ zs.drop (o + (m + 1))).drop (o + m) = ss.drop m ++ zs.drop (o + (m + 1)) ∧ ((zs.take o ++ ss ++ zs.drop (o + (m + 1))).drop o).take m = ss.take m := by
  have lt : (zs.take o).length = o := by simp; omega
  refine ⟨?_, ?_, ?_⟩
  · rw [List.append_assoc, List.take_append_of_le_length (by omega), List.take_of_length_le (by omega)]
  · rw [List.append_assoc, List.drop_append, List.drop_of_length_le (by omega), List.nil_append, lt, Nat.add_sub_cancel_left, List.drop_append_of_le_length (by omega)]
  · rw [List.append_assoc, List.drop_append, List.drop_of_length_le (by omega), List.nil_append, lt, Nat.sub_self, List.drop_zero, List.take_append_of_le_length (by omega)]
theorem beq_dec (k : Nat) : ((k : Int) == 0) = decide (k = 0) := by rw [Bool.eq_iff_iff]; simp
theorem carry_le {z k : Nat} (h : z < 4294967296) (hk : k ≤ 1) : (z + k) / 4294967296 ≤ 1 := by omega
theorem Out.back {w : World} {g o : Nat} {zs ys : List Nat} {m U V G k : Nat} {wr w1 : World} {ss : List Nat} (h : Out w g o zs m U V G true wr) (hV : 0 < V) (hy : val ys = V) (hyl : ys.length = m) (ho : o + m < zs.length)
    (hl : ss.length = m + 1) (lo : Lo ss) (hv : val ss + V * G = U + B ^ (m + 1))
    (S : Sum wr g o (zs.take o ++ ss ++ zs.drop (o + (m + 1))) (ss.take m) ys m k w1) :
    ∃ z, z < 4294967296 ∧ w1.cell? ⟨g, o + m, none⟩ = some (lv z) ∧ w1.frozen? ⟨g, o + m, none⟩ = false ∧ (z + k) / 4294967296 ≤ 1 ∧
      Out w g o zs m U V (G - 1) (decide ((z + k) / 4294967296 = 0)) (w1.setCell ⟨g, o + m, none⟩ (lv ((z + k) % 4294967296))) := by
  obtain ⟨ts, tl, tlo, tv, tr⟩ := S.ss
  obtain ⟨q1, q2, q3⟩ := take_all zs ss o m (by omega) hl
  rw [q1, q2] at tr
  have hm : m < ss.length := by omega
  have ed : ss.drop m = [ss[m]] := by
    rw [List.drop_eq_getElem_cons hm, List.drop_eq_nil_of_le (show ss.length ≤ m + 1 by omega)]
  rw [ed] at tr
  have k1 := S.k1
  have zb := lo.at_ m hm
  have gp := h.pos hV
  have lth := h.lt
  have lz : (zs.take o).length = o := by simp; omega
  rw [List.take_of_length_le (show (ss.take m).length ≤ m by simp; omega), List.take_of_length_le (show ys.length ≤ m by omega), hy] at tv
  have sv : val ss = val (ss.take m) + B ^ m * ss[m] := by
    have := val_take_succ ss m hm
    rwa [List.take_of_length_le (by omega)] at this
  refine ⟨ss[m], zb, tr.cell' ?_, tr.melt _, carry_le zb k1, ⟨ts ++ [(ss[m] + k) % 4294967296], by simp [tl], tlo.append (.cons (Nat.mod_lt _ (by decide)) .nil), ?_, ?_⟩, Nat.le_sub_one_of_lt gp, Nat.lt_of_le_of_lt (Nat.sub_le _ _) lth, (h.t.trans S.t).setCell _ _⟩
  · rw [List.getElem?_append_right (by simp; omega), List.length_append, lz, tl, Nat.sub_self]; rfl
  · have e2 : ss[m] + k = (ss[m] + k) % 4294967296 + 4294967296 * ((ss[m] + k) / 4294967296) := by omega
    have e3 : B ^ m * (ss[m] + k) = B ^ m * ((ss[m] + k) % 4294967296) + B ^ (m + 1) * ((ss[m] + k) / 4294967296) := by
      conv => lhs; rw [e2, Nat.mul_add, ← Nat.mul_assoc]
      rw [Nat.pow_succ, show B ^ m * B = B ^ m * 4294967296 by rw [B_eq]]
    rw [Nat.mul_add] at e3
    have e4 : V * G = V * (G - 1) + V := by
      conv => lhs; rw [← Nat.sub_add_cancel (show 1 ≤ G from Nat.lt_of_le_of_lt (Nat.zero_le _) gp), Nat.mul_add, Nat.mul_one]
    rw [val_snoc, tl]
    have c : (ss[m] + k) / 4294967296 = 0 ∨ (ss[m] + k) / 4294967296 = 1 := by omega
    rcases c with c | c
    · rw [c, Nat.mul_zero, Nat.add_zero] at e3
      rw [c]
      simp only [decide_true, if_true]
      omega
    · rw [c, Nat.mul_one] at e3
      rw [c]
      simp only [show decide ((1 : Nat) = 0) = false from rfl, Bool.false_eq_true, if_false]
      omega
  · have := tr.set_ (o + m) ((ss[m] + k) % 4294967296) (Nat.mod_lt _ (by decide))
    rw [show zs.take o ++ ts ++ ([ss[m]] ++ zs.drop (o + (m + 1))) = zs.take o ++ ts ++ (ss[m] :: zs.drop (o + (m + 1))) from rfl, set_mid _ _ _ _ o m lz tl] at this
    exact this
/-- What takeTimes leaves is what the loop begins with. -/
theorem Tak.out {w : World} {g o : Nat} {zs ys : List Nat} {f m b U V : Nat} {w1 : World} (h : Tak w g o zs ys f (m + 1) 0 b w1) (hy : val ys = V) (hyl : ys.length = m) (hU : U = val ((zs.drop o).take (m + 1))) (hge : U / V ≤ f) (hf : f < 4294967296) :
    Out w g o zs m U V f ((b : Int) != 0) w1 := by
  obtain ⟨ss, hl, lo, hv, r⟩ := h.ss
  have hb := h.bb
  refine ⟨⟨ss, hl, lo, ?_, r⟩, hge, hf, h.t⟩
  rw [List.take_of_length_le (by omega), hy, ← hU, Nat.zero_add] at hv
  rw [hv]
  have c : b = 0 ∨ b = 1 := by omega
  rcases c with rfl | rfl
  · rw [Nat.mul_zero, if_neg (by decide)]
  · rw [Nat.mul_one, if_pos (by decide)]

theorem top_two (zs : List Nat) (o m : Nat) (hm : 0 < m) (hz : o + m < zs.length) :
    val ((zs.drop o).take (m + 1)) = val ((zs.drop o).take (m - 1)) + B ^ (m - 1) * (zs[o + (m - 1)] + B * zs[o + m]) := by
  have h1 := val_take_succ (zs.drop o) m (by simp; omega)
  have h2 := val_take_succ (zs.drop o) (m - 1) (by simp; omega)
  rw [List.getElem_drop] at h1 h2
  rw [Nat.sub_add_cancel hm] at h2
  have e : B ^ m = B ^ (m - 1) * B := by rw [← Nat.pow_succ]; congr 1; omega
  rw [h1, h2, e, Nat.mul_add, Nat.mul_assoc, Nat.add_assoc]
theorem top_one (ys : List Nat) (m : Nat) (hm : 0 < m) (hy : ys.length = m) : val ys = val (ys.take (m - 1)) + B ^ (m - 1) * ys[m - 1] := by
  have h2 := val_take_succ ys (m - 1) (by omega)
  rw [Nat.sub_add_cancel hm, List.take_of_length_le (by omega)] at h2
  exact h2
theorem guess_ok (zs ys : List Nat) (o m : Nat) (hm : 0 < m) (hz : o + m < zs.length) (lz : Lo zs) (hy : ys.length = m) (hv : 0 < val ys) (hy1 : ys[m - 1] ≠ 0) (hlt : val ((zs.drop (o + 1)).take m) < val ys) :
    val ((zs.drop o).take (m + 1)) / val ys ≤ min ((zs[o + m] * 4294967296 + zs[o + (m - 1)]) / ys[m - 1]) 4294967295 := by
  have hU := top_two zs o m hm hz
  have hV := top_one ys m hm hy
  have hl : val ((zs.drop o).take (m - 1)) < B ^ (m - 1) := by
    have := val_lt ((lz.drop o).take (m - 1))
    rwa [List.length_take, List.length_drop, Nat.min_eq_left (by omega)] at this
  have hq := guess_ge hU hV hl (Nat.div_mul_le_self _ _)
  refine Nat.le_min.2 ⟨?_, ?_⟩
  · rw [Nat.le_div_iff_mul_le (by omega)]
    rw [B_eq] at hq
    omega
  · have e : (zs.drop o).take (m + 1) = zs[o] :: (zs.drop (o + 1)).take m := by
      rw [List.drop_eq_getElem_cons (by omega), List.take_succ_cons]
    have z0 := lz.at_ o (by omega)
    have : val ((zs.drop o).take (m + 1)) < 4294967296 * val ys := by
      rw [e, val_cons, B_eq]
      have : 4294967296 * (val ((zs.drop (o + 1)).take m) + 1) ≤ 4294967296 * val ys := Nat.mul_le_mul_left _ hlt
      omega
    have := (Nat.div_lt_iff_lt_mul hv).2 this
    omega

end Go.Proofs.Ytnkhgkpijfohkaa
namespace Go.Proofs.Ytnkhgkpijfohkaa

theorem last_zero {ss : List Nat} {m : Nat} (hl : ss.length = m + 1) (h : val ss < B ^ m) : ∃ ws, ss = ws ++ [0] ∧ ws.length = m ∧ val ws = val ss := by
  have hm : m < ss.length := by omega
  have e := val_take_succ ss m hm
  rw [List.take_of_length_le (by omega)] at e
  have z : ss[m] = 0 := by
    apply Decidable.byContradiction
    intro k
    have : B ^ m * 1 ≤ B ^ m * ss[m] := Nat.mul_le_mul_left _ (by omega)
    rw [Nat.mul_one] at this
    omega
  refine ⟨ss.take m, ?_, by simp; omega, ?_⟩
  · have := take_snoc ss m hm
    rw [List.take_of_length_le (by omega), z] at this
    exact this
  · rw [e, z, Nat.mul_zero, Nat.add_zero]
theorem div_scaled {a b Q R p : Nat} (hp : 0 < p) (hb : 0 < b) (h : a * p = Q * (b * p) + R) (hR : R < b * p) : Q = a / b ∧ R / p = a % b := by
  have hbp : 0 < b * p := Nat.mul_pos hb hp
  have e := (Nat.div_mod_unique (a := a * p) (b := b * p) (c := R) (d := Q) hbp).2 ⟨by rw [h, Nat.mul_comm (b * p) Q, Nat.add_comm], hR⟩
  rw [Nat.mul_div_mul_right _ _ hp] at e
  rw [Nat.mul_mod_mul_right] at e
  exact ⟨e.1.symm, by rw [← e.2, Nat.mul_div_cancel _ hp]⟩
theorem dlg_step {N Q R v B' x U : Nat} (h : N = Q * v + R) (hU : U = x + B' * R) : x + B' * N = (U / v + B' * Q) * v + U % v := by
  have e := Nat.div_add_mod U v
  rw [h, Nat.add_mul, Nat.mul_add, ← Nat.mul_assoc, Nat.mul_comm (U / v) v]
  omega
theorem shift_fits {b m k : Nat} (hm : m + 1 = (limbs b).length) (hs : bl ((limbs b)[m]'(by omega)) + k = 32) : b * 2 ^ k < B ^ (m + 1) := by
  have e := bl_limbs (a := b) (k := m) hm
  have l := lt_bl b
  rw [B_pow]
  have : b * 2 ^ k < 2 ^ bl b * 2 ^ k := Nat.mul_lt_mul_of_pos_right l (Nat.two_pow_pos k)
  rw [← Nat.pow_add] at this
  rw [show bl b + k = 32 * (m + 1) by omega] at this
  exact this
theorem shift_ge {b m k : Nat} (hb : b ≠ 0) (hm : m + 1 = ln b) : B ^ m ≤ b * 2 ^ k := by
  have := le_of_ln hb
  rw [← hm, Nat.add_sub_cancel] at this
  exact Nat.le_trans this (Nat.le_mul_of_pos_right _ (Nat.two_pow_pos k))
theorem top_ne {vs : List Nat} {m : Nat} (hl : vs.length = m + 1) (lo : Lo vs) (h : B ^ m ≤ val vs) : vs[m] ≠ 0 := by
  intro z
  have e := val_take_succ vs m (by omega)
  rw [List.take_of_length_le (by omega), z, Nat.mul_zero, Nat.add_zero] at e
  have := val_lt (lo.take m)
  rw [List.length_take, Nat.min_eq_left (by omega)] at this
  omega
/-- The upper limbs of what is divided are below the divisor. -/
theorem start_lt {S : List Nat} {a n d m p v : Nat} (hS : val S = a * p) (ha : a < B ^ n) (hd : d + m = n + 1) (hl : S.length = n + 1) (hm : 0 < m) (hp : 0 < p) (hv : B ^ (m - 1) * p ≤ v) : val (S.drop d) < v := by
  have e := val_split S d (by omega)
  apply Nat.lt_of_lt_of_le _ hv
  apply Decidable.byContradiction
  intro k
  have k1 : B ^ d * (B ^ (m - 1) * p) ≤ B ^ d * val (S.drop d) := Nat.mul_le_mul_left _ (by omega)
  rw [← Nat.mul_assoc, ← Nat.pow_add, show d + (m - 1) = n by omega] at k1
  have k2 : a * p < B ^ n * p := Nat.mul_lt_mul_of_pos_right ha hp
  omega
end Go.Proofs.Ytnkhgkpijfohkaa
namespace Go.Proofs.Ytnkhgkpijfohkaa
open Go.RowKit
set_option linter.unusedVariables false
set_option linter.unusedSimpArgs false

/-- Two naturals. -/
def RetD (q r : Nat) (w : World) (e : Ending) (w' : World) : Prop := ∃ A n c A' n' c', e = .returned (.tuple #[.slice A n c, .slice A' n' c']) ∧ Lim w' A n c (limbs q) ∧ Lim w' A' n' c' (limbs r) ∧ Below w.heap.size w w'
/-- Both shifted numbers, in blocks of their own. -/
structure Two (w : World) (n m a b : Nat) (gR gV : Nat) (S vs : List Nat) (wx : World) : Prop where
  sl : S.length = n + 1
  vl : vs.length = m + 1
  sv : val S = a
  vv : val vs = b
  r1 : Row wx gR S
  r2 : Row wx gV vs
  ne : gR ≠ gV
  g1 : w.heap.size ≤ gR
  g2 : w.heap.size ≤ gV
  bl : Below w.heap.size w wx
theorem Two.ab {w W wa wb : World} {n m a b : Nat} {sa sb : List Nat} (h0 : Below w.heap.size w W) (la : sa.length = n + 1) (va : val sa = a) (ra : Row wa W.heap.size sa) (ba : Below W.heap.size W wa)
    (lb : sb.length = m + 1) (vb : val sb = b) (rb : Row wb wa.heap.size sb) (bb : Below wa.heap.size wa wb) : Two w n m a b W.heap.size wa.heap.size sa sb wb :=
  ⟨la, lb, va, vb, ra.next bb, rb, Nat.ne_of_lt ra.lt, h0.size, Nat.le_trans h0.size ba.size, below_step (below_step h0 ba) bb⟩
theorem Two.ba {w W wa wb : World} {n m a b : Nat} {sa sb : List Nat} (h0 : Below w.heap.size w W) (la : sa.length = n + 1) (va : val sa = a) (ra : Row wa wb.heap.size sa) (ba : Below wb.heap.size wb wa)
    (lb : sb.length = m + 1) (vb : val sb = b) (rb : Row wb W.heap.size sb) (bb : Below W.heap.size W wb) : Two w n m a b wb.heap.size W.heap.size sa sb wa :=
  ⟨la, lb, va, vb, ra, rb.next ba, Nat.ne_of_gt rb.lt, Nat.le_trans h0.size bb.size, h0.size, below_step (below_step h0 bb) ba⟩
theorem Two.drew {w : World} {n m a b gR gV : Nat} {S vs : List Nat} {wx : World} (h : Two w n m a b gR gV S vs wx) : Two w n m a b gR gV S vs wx.drew :=
  ⟨h.sl, h.vl, h.sv, h.vv, h.r1.drew, h.r2.drew, h.ne, h.g1, h.g2, h.bl.drew⟩
/-- What is in the loop of divLong. -/
structure Dlg (w : World) (n m d gR gV gQ : Nat) (S vs : List Nat) (i : Nat) (wr : World) : Prop where
  qs : ∃ ws qs, ws.length = m ∧ val ws < val (vs.take m) ∧ qs.length + i = d ∧ val (S.drop i) = val qs * val (vs.take m) + val ws ∧ Row wr gR (S.take i ++ ws ++ List.replicate (n + 1 - i - m) 0) ∧ Row wr gQ (List.replicate i 0 ++ qs)
  rv : Row wr gV vs
  bl : Below w.heap.size w wr

theorem win_parts (S ws : List Nat) (i m r : Nat) (hi : i < S.length) (hw : ws.length = m) :
    let zs := S.take (i + 1) ++ ws ++ List.replicate r 0
    zs.take i = S.take i ∧ (zs.drop (i + 1)).take m = ws ∧ (zs.drop i).take (m + 1) = S[i] :: ws ∧ zs.drop (i + (m + 1)) = List.replicate r 0 := by
  intro zs
  have e0 : zs = S.take i ++ (S[i] :: (ws ++ List.replicate r 0)) := by
    show S.take (i + 1) ++ ws ++ List.replicate r 0 = _
    rw [take_snoc S i hi, List.append_assoc, List.append_assoc]; rfl
  have l0 : (S.take i).length = i := by simp; omega
  have d0 : zs.drop i = S[i] :: (ws ++ List.replicate r 0) := by
    rw [e0, List.drop_append, List.drop_of_length_le (by omega), List.nil_append, l0, Nat.sub_self, List.drop_zero]
  have d1 : zs.drop (i + 1) = ws ++ List.replicate r 0 := by
    rw [← List.drop_drop, d0]; rfl
  refine ⟨?_, ?_, ?_, ?_⟩
  · rw [e0, List.take_append_of_le_length (by omega), List.take_of_length_le (by omega)]
  · rw [d1, List.take_append_of_le_length (by omega), List.take_of_length_le (by omega)]
  · rw [d0, List.take_succ_cons, List.take_append_of_le_length (by omega), List.take_of_length_le (by omega)]
  · rw [show i + (m + 1) = i + 1 + m by omega, ← List.drop_drop, d1, List.drop_append, List.drop_of_length_le (by omega), List.nil_append, hw, Nat.sub_self, List.drop_zero]
theorem Dlg.step {w : World} {n m d gR gV gQ : Nat} {S vs : List Nat} {i : Nat} {wr : World} (h : Dlg w n m d gR gV gQ S vs (i + 1) wr) (hd : d + m = n + 1) (hi : i < d) (sl : S.length = n + 1) (lS : Lo S) (hm : 0 < m)
    (vlt : val (vs.take m) < B ^ m) (vpos : 0 < val (vs.take m)) (n1 : gR ≠ gV) (n2 : gQ ≠ gR) (n3 : gQ ≠ gV) (w1 : w.heap.size ≤ gR) (w2 : w.heap.size ≤ gQ) :
    ∃ zs, zs.length = n + 1 ∧ Row wr gR zs ∧ val ((zs.drop (i + 1)).take m) < val (vs.take m) ∧
      ∀ e w2, RetO wr gR i zs m (val ((zs.drop i).take (m + 1))) (val (vs.take m)) e w2 → ∃ q, q < 4294967296 ∧ e = .returned (lv q) ∧ w2.cell? ⟨gQ, i, none⟩ = some (lv 0) ∧ w2.frozen? ⟨gQ, i, none⟩ = false ∧
        Dlg w n m d gR gV gQ S vs i (w2.setCell ⟨gQ, i, none⟩ (lv q)) := by
  obtain ⟨ws, qs, wl, wlt, ql, hv, rR, rQ⟩ := h.qs
  obtain ⟨p1, p2, p3, p4⟩ := win_parts S ws i m (n + 1 - (i + 1) - m) (by omega) wl
  have hS := lS.at_ i (by omega)
  refine ⟨_, by simp; omega, rR, by rw [p2]; exact wlt, ?_⟩
  intro e w3 he
  obtain ⟨ss, rfl, ssl, ssv, rR2, tt⟩ := he
  rw [p1, p4] at rR2
  rw [p3] at ssv ⊢
  have U1 : val (S[i] :: ws) < 4294967296 * val (vs.take m) := by
    rw [val_cons, B_eq]
    have : 4294967296 * (val ws + 1) ≤ 4294967296 * val (vs.take m) := Nat.mul_le_mul_left _ wlt
    omega
  have ql2 : val (S[i] :: ws) / val (vs.take m) < 4294967296 := (Nat.div_lt_iff_lt_mul vpos).2 U1
  have rl : val ss < val (vs.take m) := by rw [ssv]; exact Nat.mod_lt _ vpos
  obtain ⟨ws2, es, wl2, wv2⟩ := last_zero ssl (Nat.lt_trans rl vlt)
  have rQ2 := tt.row rQ n2
  have eq0 : List.replicate (i + 1) 0 ++ qs = List.replicate i 0 ++ (0 :: qs) := by
    rw [List.replicate_succ', List.append_assoc]; rfl
  rw [eq0] at rQ2
  refine ⟨_, ql2, rfl, rQ2.cell' ?_, rQ2.melt _, ⟨ws2, (val (S[i] :: ws) / val (vs.take m)) :: qs, wl2, by rw [wv2]; exact rl, by simp; omega, ?_, ?_, ?_⟩, (tt.row h.rv n1.symm).far (p := ⟨gQ, i, none⟩) n3.symm _, (h.bl.trans (tt.below w1)).setCell w2 _⟩
  · rw [List.getElem?_append_right (by simp)]; simp
  · rw [val_drop S i (by omega), val_cons, wv2, ssv]
    exact dlg_step hv (by rw [val_cons])
  · have er : S.take i ++ ws2 ++ List.replicate (n + 1 - i - m) 0 = S.take i ++ ss ++ List.replicate (n + 1 - (i + 1) - m) 0 := by
      rw [es, show n + 1 - i - m = (n + 1 - (i + 1) - m) + 1 by omega, List.replicate_succ]
      simp
    rw [er]
    exact rR2.far (p := ⟨gQ, i, none⟩) n2.symm _
  · have := rQ2.set_ i (val (S[i] :: ws) / val (vs.take m)) ql2
    rwa [List.set_append_right _ _ (by simp), List.length_replicate, Nat.sub_self, List.set_cons_zero] at this

end Go.Proofs.Ytnkhgkpijfohkaa
namespace Go.Proofs.Ytnkhgkpijfohkaa
open Go.RowKit
set_option linter.unusedVariables false
set_option linter.unusedSimpArgs false

/-- A row that the call owns is a slice of limbs. -/
theorem own_lim {w : World} {base n : Nat} {v : Value} {xs : List Nat} (h : w.ownsRow base 79 1 v n (xs.map lv)) (lo : Lo xs) : ∃ A c, v = .slice A n c ∧ Lim w A n c xs := by
  have hl : xs.length = n := by have := h.1; simpa using this
  rcases h.2 with ⟨rfl, rfl⟩ | ⟨g, cap, cur, rfl, _, hb, h1, h2, h3, h4⟩
  · have e := List.eq_nil_of_length_eq_zero hl
    subst e
    exact ⟨none, 0, rfl, Lim.none_ _ _ _ (by omega)⟩
  · refine ⟨_, cap, rfl, hl, h1, h2, fun j hj => ⟨_, rfl, ?_⟩, lo⟩
    rw [add_lit, Nat.zero_add]
    have e : cur[j]? = some (lv xs[j]) := by
      have : (cur.toList.take (n * 1))[j]? = some (lv xs[j]) := by rw [h4]; simp [hj]
      rw [List.getElem?_take, if_pos (by omega)] at this
      simpa using this
    simp [World.cell?, hb, e]

/-- Two naturals, and an error. -/
def RetF (q r : Nat) (k : Int) (w : World) (e : Ending) (w' : World) : Prop := ∃ A n c A' n' c', e = .returned (.tuple #[.slice A n c, .slice A' n' c', .int .i64 k]) ∧ Lim w' A n c (limbs q) ∧ Lim w' A' n' c' (limbs r) ∧ Below w.heap.size w w'
end Go.Proofs.Ytnkhgkpijfohkaa
namespace Go.Proofs.Ytnkhgkpijfohkaa
open Go.RowKit
set_option linter.unusedVariables false
set_option linter.unusedSimpArgs false

theorem or_words (x y : Nat) (hx : x < 4294967296) (hy : y < 4294967296) : bits BinOp.or IntKind.u64 (x : Int) ((y : Int) * 4294967296) = ((x + 4294967296 * y : Nat) : Int) := by
  have e : (y : Int) * 4294967296 = ((y * 4294967296 : Nat) : Int) := by omega
  rw [e, u64_or_nat _ _ (by omega) (by omega), Nat.or_comm]
  have := or_apart y x 32 (by omega)
  rw [show (2 : Nat) ^ 32 = 4294967296 by decide] at this
  omega
theorem or_zero_left (x : Nat) (hx : x < 4294967296) : bits BinOp.or IntKind.u64 0 (x : Int) = (x : Int) := by
  have := u64_or_nat 0 x (by omega) (by omega)
  rw [Nat.zero_or] at this
  exact this
/-- Two naturals that lie there. -/
structure Both (w : World) (x y : Nat) (s0 s1 : Value) (wr : World) : Prop where
  ex : ∃ A n c A' n' c', s0 = .slice A n c ∧ s1 = .slice A' n' c' ∧ Lim wr A n c (limbs x) ∧ Lim wr A' n' c' (limbs y)
  lx : ln x ≤ 64
  ly : ln y ≤ 64
  bl : Below w.heap.size w wr
theorem lt_word {n : Nat} (h : ln n ≤ 2) : n < 18446744073709551616 := by
  have := Nat.lt_of_lt_of_le (lt_ln n) (Nat.pow_le_pow_right B_pos h)
  rwa [B_eq, show (4294967296 : Nat) ^ 2 = 18446744073709551616 by decide] at this
theorem ln_word {n : Nat} (h : n < 18446744073709551616) : ln n ≤ 2 := ln_le (by rw [B_eq, show (4294967296 : Nat) ^ 2 = 18446744073709551616 by decide]; exact h)
end Go.Proofs.Ytnkhgkpijfohkaa
