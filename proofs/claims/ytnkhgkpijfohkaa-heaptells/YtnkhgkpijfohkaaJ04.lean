/- Plain arithmetic: decimal digits and texts. The walks of withDigits, trimRightByte, TrimRight. The walks of Reverse, Text. The walks of isText, small. The walks of timesAnd, Read. The walk of Read. The walks of Same and awake. The walk of awake: the fixed answer of the stage. Plain arithmetic for the laws: how long sums and products are. Fractions in memory; the walks of rat: Right, reduced. The walks of rat: products, crossed, Cmp, Mul, Div. The walks of rat: joined, Add, Sub. What the calls of rat answer, in plain numbers; the walks of Make, Whole, Text. The document's product of two numbers of 64 bits; its Cmp of items. The document's May, All, Small, Same. -/
import Derived.Test.YtnkhgkpijfohkaaJ03
import Derived.Maps.AppendAt
import Derived.Laws.IdiomStrings
import Derived.Test.YtnkhgkpijfohkaaJ01
import Derived.Test.YtnkhgkpijfohkaaJ02
import Derived.Deep.RegionHeld3
import Derived.Laws.Cover1
import Derived.Deep.LoopGhost
import Derived.Deep.Light
namespace Go.Proofs.Ytnkhgkpijfohkaa

/-- The number of decimal digits, the lowest first. -/
def dv : List Nat → Nat
  | [] => 0
  | x :: r => x + 10 * dv r
/-- Digits. -/
def Dg (xs : List Nat) : Prop := ∀ x ∈ xs, x < 10
theorem Dg.nil : Dg [] := fun x hx => by cases hx
theorem Dg.cons {x : Nat} {r : List Nat} (h : x < 10) (k : Dg r) : Dg (x :: r) := fun y hy => by
  rcases List.mem_cons.1 hy with rfl | hy
  · exact h
  · exact k y hy
theorem Dg.head {x : Nat} {r : List Nat} (h : Dg (x :: r)) : x < 10 := h x (by simp)
theorem Dg.tail {x : Nat} {r : List Nat} (h : Dg (x :: r)) : Dg r := fun y hy => h y (by simp [hy])
theorem Dg.append {xs ys : List Nat} (h : Dg xs) (k : Dg ys) : Dg (xs ++ ys) := fun y hy => by
  rcases List.mem_append.1 hy with hy | hy
  · exact h y hy
  · exact k y hy
theorem Dg.take {xs : List Nat} (h : Dg xs) (k : Nat) : Dg (xs.take k) := fun y hy => h y (List.mem_of_mem_take hy)
theorem dv_append (xs ys : List Nat) : dv (xs ++ ys) = dv xs + 10 ^ xs.length * dv ys := by
  induction xs with
  | nil => simp [dv]
  | cons x r ih => rw [List.cons_append, dv, dv, ih, List.length_cons, Nat.pow_succ, Nat.mul_add, Nat.add_assoc, Nat.mul_comm (10 ^ r.length) 10, Nat.mul_assoc]
theorem dv_snoc_zero (xs : List Nat) : dv (xs ++ [0]) = dv xs := by rw [dv_append]; simp [dv]
/-- The digits of a number, the lowest first. -/
def tens (n : Nat) : List Nat := if h : n = 0 then [] else n % 10 :: tens (n / 10)
termination_by n
decreasing_by exact Nat.div_lt_self (Nat.pos_of_ne_zero h) (by decide)
theorem tens_zero : tens 0 = [] := by rw [tens]; rfl
theorem tens_pos {n : Nat} (h : n ≠ 0) : tens n = n % 10 :: tens (n / 10) := by rw [tens, dif_neg h]
theorem tens_step (n : Nat) : tens n = if n = 0 then [] else n % 10 :: tens (n / 10) := by
  by_cases h : n = 0
  · rw [if_pos h, h, tens_zero]
  · rw [if_neg h, tens_pos h]
theorem dg_tens (n : Nat) : Dg (tens n) := by
  induction n using Nat.strongRecOn with
  | _ n ih =>
    by_cases h : n = 0
    · rw [h, tens_zero]; exact .nil
    · rw [tens_pos h]
      exact .cons (Nat.mod_lt _ (by decide)) (ih _ (Nat.div_lt_self (Nat.pos_of_ne_zero h) (by decide)))
theorem dv_tens (n : Nat) : dv (tens n) = n := by
  induction n using Nat.strongRecOn with
  | _ n ih =>
    by_cases h : n = 0
    · rw [h, tens_zero]; rfl
    · rw [tens_pos h, dv, ih _ (Nat.div_lt_self (Nat.pos_of_ne_zero h) (by decide))]
      omega
theorem tens_dv {xs : List Nat} (h : Dg xs) (k : ∀ hn : xs ≠ [], xs.getLast hn ≠ 0) : tens (dv xs) = xs := by
  induction xs with
  | nil => rw [dv, tens_zero]
  | cons x r ih =>
    by_cases hr : r = []
    · subst hr
      have := k (by simp)
      simp at this
      have hx := h.head
      rw [dv, dv, Nat.mul_zero, Nat.add_zero, tens_pos this, Nat.mod_eq_of_lt hx, Nat.div_eq_of_lt hx, tens_zero]
    · have k' : ∀ hn : r ≠ [], r.getLast hn ≠ 0 := fun hn => by
        have := k (by simp)
        rwa [List.getLast_cons hn] at this
      have i := ih h.tail k'
      have nz : dv r ≠ 0 := by
        intro e
        rw [e, tens_zero] at i
        exact hr i.symm
      have hx := h.head
      rw [dv, tens_pos (by omega), show (x + 10 * dv r) % 10 = x by omega, show (x + 10 * dv r) / 10 = dv r by omega, i]
theorem tens_last (n : Nat) (hn : tens n ≠ []) : (tens n).getLast hn ≠ 0 := by
  induction n using Nat.strongRecOn with
  | _ n ih =>
    by_cases h : n = 0
    · subst h; exact absurd tens_zero hn
    · have e := tens_pos h
      have : (tens n).getLast hn = (n % 10 :: tens (n / 10)).getLast (by simp) := by simp only [e]
      rw [this]
      by_cases h2 : n / 10 = 0
      · have e3 : tens (n / 10) = [] := by rw [h2, tens_zero]
        simp only [e3, List.getLast_singleton]
        omega
      · have hne : tens (n / 10) ≠ [] := by rw [tens_pos h2]; simp
        rw [List.getLast_cons hne]
        exact ih _ (Nat.div_lt_self (Nat.pos_of_ne_zero h) (by decide)) hne
/-- So many digits of a number, noughts among them. -/
def pads : Nat → Nat → List Nat
  | 0, _ => []
  | k + 1, n => n % 10 :: pads k (n / 10)
theorem pads_length (k n : Nat) : (pads k n).length = k := by
  induction k generalizing n with
  | zero => rfl
  | succ k ih => rw [pads, List.length_cons, ih]
theorem dg_pads (k n : Nat) : Dg (pads k n) := by
  induction k generalizing n with
  | zero => exact .nil
  | succ k ih => exact .cons (Nat.mod_lt _ (by decide)) (ih _)
theorem dv_pads (k n : Nat) (h : n < 10 ^ k) : dv (pads k n) = n := by
  induction k generalizing n with
  | zero => have : n = 0 := by simpa using h
            rw [this]; rfl
  | succ k ih =>
    rw [pads, dv, ih (n / 10) ((Nat.div_lt_iff_lt_mul (by decide)).2 (by rw [Nat.pow_succ] at h; exact h))]
    omega
theorem pads_snoc (k n : Nat) : pads (k + 1) n = pads k n ++ [n / 10 ^ k % 10] := by
  induction k generalizing n with
  | zero => simp [pads]
  | succ k ih =>
    rw [pads, ih (n / 10), pads, List.cons_append, Nat.div_div_eq_div_mul, Nat.pow_succ, Nat.mul_comm 10]
/-- A digit as a byte. -/
def dig (d : Nat) : UInt8 := UInt8.ofNat (48 + d)
theorem dig_toNat {d : Nat} (h : d < 10) : (dig d).toNat = 48 + d := by
  unfold dig
  rw [UInt8.toNat_ofNat_of_lt' (by show 48 + d < 256; omega)]
theorem dig_zero : dig 0 = 48 := rfl
theorem dig_ne {d : Nat} (h : d < 10) (hz : d ≠ 0) : dig d ≠ 48 := by
  intro e
  have := dig_toNat h
  rw [e] at this
  have : (48 : UInt8).toNat = 48 := rfl
  omega
/-- The text of a number. -/
@[irreducible] def dtext (n : Nat) : List UInt8 := if n = 0 then [48] else ((tens n).map dig).reverse
theorem dtext_zero : dtext 0 = [48] := by unfold dtext; rw [if_pos rfl]
theorem dtext_pos {n : Nat} (h : n ≠ 0) : dtext n = ((tens n).map dig).reverse := by unfold dtext; rw [if_neg h]

/-- The number of a text. -/
def rd (l : List UInt8) : Nat := l.foldl (fun n c => n * 10 + (c.toNat - 48)) 0
theorem rd_snoc (l : List UInt8) (c : UInt8) : rd (l ++ [c]) = rd l * 10 + (c.toNat - 48) := by unfold rd; rw [List.foldl_append]; rfl
theorem rd_digits (ds : List Nat) (h : Dg ds) : rd ((ds.map dig).reverse) = dv ds := by
  induction ds with
  | nil => rfl
  | cons x r ih =>
    rw [List.map_cons, List.reverse_cons, rd_snoc, ih h.tail, dig_toNat h.head, dv]
    omega
theorem rd_dtext (n : Nat) : rd (dtext n) = n := by
  by_cases h : n = 0
  · rw [h, dtext_zero]; rfl
  · rw [dtext_pos h, rd_digits _ (dg_tens n), dv_tens]
/-- A decimal digit. -/
def isD (c : UInt8) : Prop := 48 ≤ c.toNat ∧ c.toNat ≤ 57
/-- Is it a natural's text? -/
def isT (l : List UInt8) : Prop := l ≠ [] ∧ ¬ (l.head? = some 48 ∧ 1 < l.length) ∧ ∀ c ∈ l, isD c
theorem isD_dig {d : Nat} (h : d < 10) : isD (dig d) := by unfold isD; rw [dig_toNat h]; omega
theorem isT_dtext (n : Nat) : isT (dtext n) := by
  by_cases h : n = 0
  · rw [h, dtext_zero]
    refine ⟨by simp, by simp, ?_⟩
    intro c hc
    have : c = 48 := by simpa using hc
    rw [this]
    exact ⟨by decide, by decide⟩
  · have hne : tens n ≠ [] := by rw [tens_pos h]; simp
    rw [dtext_pos h]
    refine ⟨by simp [hne], ?_, ?_⟩
    · rintro ⟨hh, _⟩
      have l := tens_last n hne
      rw [List.head?_reverse, List.getLast?_map, List.getLast?_eq_some_getLast hne] at hh
      simp only [Option.map_some, Option.some.injEq] at hh
      exact dig_ne (dg_tens n _ (List.getLast_mem hne)) l hh
    · intro c hc
      rw [List.mem_reverse, List.mem_map] at hc
      obtain ⟨d, hd, rfl⟩ := hc
      exact isD_dig (dg_tens n d hd)
theorem rd_append (l m : List UInt8) : rd (l ++ m) = rd l * 10 ^ m.length + rd m := by
  induction m generalizing l with
  | nil => simp [rd]
  | cons c r ih =>
    have e : l ++ c :: r = (l ++ [c]) ++ r := by simp
    have e2 : c :: r = [c] ++ r := rfl
    rw [e, ih, rd_snoc, e2, ih [c], List.length_append, List.length_singleton]
    have : rd [c] = c.toNat - 48 := by simp [rd]
    rw [this, Nat.add_mul, Nat.pow_add, Nat.pow_one, ← Nat.mul_assoc, Nat.add_assoc]
theorem rd_lt (l : List UInt8) (h : ∀ c ∈ l, isD c) : rd l < 10 ^ l.length := by
  induction l with
  | nil => simp [rd]
  | cons c r ih =>
    have e2 : c :: r = [c] ++ r := rfl
    have i := ih (fun x hx => h x (by simp [hx]))
    have hc := (h c (by simp)).2
    have : rd [c] = c.toNat - 48 := by simp [rd]
    rw [e2, rd_append, this, List.length_append, List.length_singleton, Nat.pow_add, Nat.pow_one]
    have : (c.toNat - 48) * 10 ^ r.length ≤ 9 * 10 ^ r.length := Nat.mul_le_mul_right _ (by omega)
    omega
theorem rd_mono (l m : List UInt8) : rd l ≤ rd (l ++ m) := by
  rw [rd_append]
  have : rd l * 1 ≤ rd l * 10 ^ m.length := Nat.mul_le_mul_left _ (Nat.pow_pos (by decide))
  omega
end Go.Proofs.Ytnkhgkpijfohkaa
namespace Go.Proofs.Ytnkhgkpijfohkaa
open Go.RowKit
set_option linter.unusedVariables false
set_option linter.unusedSimpArgs false

/-- A byte. -/
abbrev bv (b : UInt8) : Value := .int .u8 (b.toNat : Int)
theorem info_u8 : (Try.prog.info? 5).map (fun i => (i.zero, i.size, i.bytes)) = some (some (.int .u8 0), 1, 1) := by kernel_rfl
/-- What is in the loop of withDigits. -/
structure Wdg (w : World) (base : Nat) (v : Value) (n : Nat) (bs : List UInt8) (x k : Nat) (v' : Value) (wr : World) : Prop where
  own : wr.ownsRow base 5 1 v' (n + k) ((bs ++ (pads k x).map dig).map bv)
  gr : w.grownBy wr v.ownBlock
  lies : v'.ownBlock = v.ownBlock ∨ ∃ b, v'.ownBlock = some b ∧ w.heap.size ≤ b
theorem Wdg.step {w : World} {base : Nat} {v : Value} {n : Nat} {bs : List UInt8} {x k : Nat} {v1 v2 : Value} {wr w2 : World} {o : Obj} (h : Wdg w base v n bs x k v1 wr)
    (hown : w2.ownsRow base 5 1 v2 (n + k + 1) ((bs ++ (pads k x).map dig).map bv ++ [bv (dig (x / 10 ^ k % 10))])) (hg : (wr.alloc o).grownBy w2 v1.ownBlock)
    (hl : v2.ownBlock = v1.ownBlock ∨ v2.ownBlock = some (wr.heap.size + 1)) : Wdg w base v n bs x (k + 1) v2 w2 := by
  have sz := h.gr.size
  refine ⟨?_, ?_, ?_⟩
  · rw [pads_snoc]
    have e : n + (k + 1) = n + k + 1 := by omega
    rw [e]
    simpa using hown
  · refine ⟨hg.os.trans h.gr.os, hg.tape.trans h.gr.tape, hg.output.trans h.gr.output, Nat.le_trans sz (Nat.le_trans (by simp) hg.size), fun i hi hne => ?_⟩
    rw [hg.block i (by simp; omega) ?_, Below.heap_alloc wr o i (by omega), h.gr.block i hi hne]
    rcases h.lies with e | ⟨b, e, hb⟩
    · rw [e]; exact hne
    · rw [e]
      intro q
      injection q with q
      omega
  · rcases hl with e | e
    · rw [e]; exact h.lies
    · exact Or.inr ⟨_, e, by omega⟩
/-- What withDigits leaves. -/
def RetW (w : World) (base : Nat) (v : Value) (n : Nat) (bs : List UInt8) (x : Nat) (e : Ending) (w' : World) : Prop := ∃ v', e = .returned v' ∧ Wdg w base v n bs x 9 v' w'
theorem div10_cast (x : Nat) : (x : Int).tdiv 10 = ((x / 10 : Nat) : Int) := (Int.ofNat_tdiv x 10).symm

/-- Block g begins with these bytes. -/
structure Brow (w : World) (g : Nat) (bs : List UInt8) (ys : List Value) : Prop where
  blk : w.heap[g]? = some (.cells (bs.map bv ++ ys).toArray 5 (0, 0))
theorem Brow.cell {w : World} {g : Nat} {bs : List UInt8} {ys : List Value} (h : Brow w g bs ys) (i : Nat) (hi : i < bs.length) : w.cell? ⟨g, i, none⟩ = some (bv bs[i]) := by
  have := h.blk
  simp [World.cell?, this, List.getElem?_append_left, hi]
theorem Brow.melt {w : World} {g : Nat} {bs : List UInt8} {ys : List Value} (h : Brow w g bs ys) (i : Nat) : w.frozen? ⟨g, i, none⟩ = false := by
  have := h.blk
  simp [World.frozen?, this]
theorem Brow.lt {w : World} {g : Nat} {bs : List UInt8} {ys : List Value} (h : Brow w g bs ys) : g < w.heap.size := (Array.getElem?_eq_some_iff.1 h.blk).1
theorem Brow.set_ {w : World} {g : Nat} {bs : List UInt8} {ys : List Value} (h : Brow w g bs ys) (i : Nat) (hi : i < bs.length) (b : UInt8) : Brow (w.setCell ⟨g, i, none⟩ (bv b)) g (bs.set i b) ys := by
  refine ⟨?_⟩
  have := h.blk
  simp [World.setCell, Array.getElem?_modify, this]
  rw [List.set_append_left _ _ (by simpa using hi)]
theorem Brow.drew {w : World} {g : Nat} {bs : List UInt8} {ys : List Value} (h : Brow w g bs ys) : Brow w.drew g bs ys := ⟨h.blk⟩
theorem own_brow {w : World} {base n : Nat} {v : Value} {bs : List UInt8} (h : w.ownsRow base 5 1 v n (bs.map bv)) (hn : 0 < n) : ∃ g c ys, v = .slice (some ⟨g, 0, none⟩) n c ∧ base ≤ g ∧ n ≤ c ∧ c ≤ maxLen ∧ bs.length = n ∧ Brow w g bs ys := by
  have hl : bs.length = n := by have := h.1; simpa using this
  rcases h.2 with ⟨rfl, rfl⟩ | ⟨g, cap, cur, rfl, h0, hb, h1, h2, h3, h4⟩
  · omega
  · refine ⟨g, cap, cur.toList.drop n, rfl, h0, h1, h2, hl, ⟨?_⟩⟩
    rw [hb]
    have : cur = (bs.map bv ++ cur.toList.drop n).toArray := by
      apply Array.ext'
      rw [Nat.mul_one] at h4
      rw [← h4]
      simp
    rw [← this]

theorem map_dig_at (ds : List Nat) (k : Nat) (hk : k < ds.length) : (ds.map dig)[k]'(by simpa using hk) = dig ds[k] := by simp
end Go.Proofs.Ytnkhgkpijfohkaa
namespace Go.Proofs.Ytnkhgkpijfohkaa
open Go.RowKit
set_option linter.unusedVariables false
set_option linter.unusedSimpArgs false

/-- So far turned round. -/
def Half2 (bs cs : List UInt8) (n i : Nat) : Prop := cs.length = n ∧ ∀ t, t < n → cs[t]? = if t < i ∨ n - i ≤ t then bs[n - 1 - t]? else bs[t]?
theorem Half2.start (bs : List UInt8) : Half2 bs bs bs.length 0 := ⟨rfl, fun t ht => by rw [if_neg (by omega)]⟩
theorem Half2.step {bs cs : List UInt8} {n i : Nat} (h : Half2 bs cs n i) (hi : i + 1 < n - i) : ∃ x y, cs[i]? = some x ∧ cs[n - 1 - i]? = some y ∧ Half2 bs ((cs.set i y).set (n - 1 - i) x) n (i + 1) := by
  have hl := h.1
  refine ⟨cs[i]'(by omega), cs[n - 1 - i]'(by omega), List.getElem?_eq_getElem _, List.getElem?_eq_getElem _, by simp [hl], ?_⟩
  intro t ht
  have e1 := h.2 i (by omega)
  have e2 := h.2 (n - 1 - i) (by omega)
  rw [if_neg (by omega)] at e1 e2
  by_cases a : t = n - 1 - i
  · subst a
    rw [List.getElem?_set_self (by simp; omega), if_pos (by omega), ← List.getElem?_eq_getElem, e1]
    congr 1
    omega
  · rw [List.getElem?_set_ne (by omega)]
    by_cases b : t = i
    · subst b
      rw [List.getElem?_set_self (by omega), if_pos (by omega), ← List.getElem?_eq_getElem, e2]
    · rw [List.getElem?_set_ne (by omega), h.2 t ht]
      by_cases c : t < i ∨ n - i ≤ t
      · rw [if_pos c, if_pos (by omega)]
      · rw [if_neg c, if_neg (by omega)]
theorem Half2.done {bs cs : List UInt8} {n i : Nat} (h : Half2 bs cs n i) (hb : bs.length = n) (hi : ¬ i + 1 < n - i) (hi2 : 2 * i ≤ n) : cs = bs.reverse := by
  apply List.ext_getElem?
  intro t
  by_cases ht : t < n
  · rw [h.2 t ht, List.getElem?_reverse (by omega), hb]
    by_cases c : t < i ∨ n - i ≤ t
    · rw [if_pos c]
    · rw [if_neg c]
      congr 1
      omega
  · rw [List.getElem?_eq_none (by rw [h.1]; omega), List.getElem?_eq_none (by simp; omega)]

theorem Brow.split {w : World} {g : Nat} {bs : List UInt8} {ys : List Value} (h : Brow w g bs ys) (k : Nat) : Brow w g (bs.take k) ((bs.drop k).map bv ++ ys) := by
  refine ⟨?_⟩
  rw [h.blk, ← List.append_assoc, ← List.map_append, List.take_append_drop]

theorem own_next {w w' : World} {base : Nat} {e : TypeId} {v : Value} {n : Nat} {xs : List Value} (h : w.ownsRow base e 1 v n xs) (hb : Below w.heap.size w w') : w'.ownsRow base e 1 v n xs := by
  obtain ⟨h1, h2⟩ := h
  refine ⟨h1, ?_⟩
  rcases h2 with h2 | ⟨g, cap, cur, hv, hg, hh, r⟩
  · exact Or.inl h2
  · exact Or.inr ⟨g, cap, cur, hv, hg, (hb.block g (Array.getElem?_eq_some_iff.1 hh).1).trans hh, r⟩
theorem Lim.grown {w w' : World} {A : Option Addr} {n c : Nat} {xs : List Nat} {row : Option Nat} (h : Lim w A n c xs) (hg : w.grownBy w' row) (hne : ∀ ad, A = some ad → some ad.block ≠ row) : Lim w' A n c xs :=
  ⟨h.len, h.cap, h.top, fun j hj => by
    obtain ⟨ad, e, hc⟩ := h.at_ j hj
    refine ⟨ad, e, hg.cell hc ?_⟩
    rw [block_add]
    exact hne ad e, h.lo⟩
/-- What is in the loop of Text. -/
structure Txt (w : World) (a x : Nat) (s0 s3 : Value) (wr : World) : Prop where
  ex : ∃ A n c ds j, s0 = .slice A n c ∧ Lim wr A n c (limbs x) ∧ Dg ds ∧ ds.length + 9 * j = 630 ∧ x < 10 ^ (9 * j) ∧ dv ds + 10 ^ ds.length * x = a ∧ wr.ownsRow w.heap.size 5 1 s3 ds.length ((ds.map dig).map bv)
  bl : Below w.heap.size w wr
theorem txt_step {P D x a : Nat} (h : D + P * x = a) : D + P * (x % 1000000000) + P * 1000000000 * (x / 1000000000) = a := by
  have e : x = x % 1000000000 + 1000000000 * (x / 1000000000) := by omega
  have : P * x = P * (x % 1000000000) + P * 1000000000 * (x / 1000000000) := by
    conv => lhs; rw [e, Nat.mul_add, ← Nat.mul_assoc]
  omega
theorem lt_630 {a : Nat} (h : ln a ≤ 64) : a < 10 ^ (9 * 70) := by
  have h1 := Nat.lt_of_lt_of_le (lt_ln a) (Nat.pow_le_pow_right B_pos h)
  rw [B_eq] at h1
  exact Nat.lt_trans h1 (by decide +kernel)

end Go.Proofs.Ytnkhgkpijfohkaa
namespace Go.Proofs.Ytnkhgkpijfohkaa
open Go.RowKit
set_option linter.unusedVariables false
set_option linter.unusedSimpArgs false

/-- A string's bytes. -/
abbrev L (s : ByteArray) : List UInt8 := s.data.toList
theorem L_len (s : ByteArray) : (L s).length = s.size := by simp [L]
theorem L_at (s : ByteArray) (k : Nat) (h : k < s.size) : (L s)[k]'(by rw [L_len]; exact h) = s[k] := rfl
theorem L_of (l : List UInt8) : L ⟨l.toArray⟩ = l := rfl
theorem of_L (s : ByteArray) : (⟨(L s).toArray⟩ : ByteArray) = s := rfl
theorem L_take (s : ByteArray) (k : Nat) (h : k ≤ s.size) : L (s.extract 0 k) = (L s).take k := by
  simp [L, ByteArray.data_extract]
theorem L_drop (s : ByteArray) (k : Nat) (h : k ≤ s.size) : L (s.extract k s.size) = (L s).drop k := by
  have e : s.data.size = s.size := rfl
  simp only [L, ByteArray.data_extract, Array.toList_extract, List.extract_eq_take_drop]
  rw [List.take_of_length_le]
  simp [e]
theorem empty_no {s : ByteArray} (h : 0 < s.size) : s.toList.isEmpty = false ∧ ¬ s.toList = [] := by
  have : s.toList = L s := ByteArray.toList_eq s
  rw [this]
  have hl := L_len s
  constructor
  · cases e : L s with
    | nil => rw [e] at hl; simp at hl; omega
    | cons a b => rfl
  · intro e
    rw [e] at hl
    simp at hl
    omega

/-- Whether it is a text. -/
def RetI (l : List UInt8) (w : World) (e : Ending) (w' : World) : Prop := ∃ b : Bool, e = .returned (.bool b) ∧ (b = true ↔ isT l) ∧ w = w'
theorem not_isD {c : UInt8} (h : (c.toNat : Int) < 48 ∨ 57 < (c.toNat : Int)) : ¬ isD c := by unfold isD; omega
theorem byte48 {c : UInt8} (h : (c.toNat : Int) = 48) : c = 48 := by
  apply UInt8.toNat_inj.1
  have : (48 : UInt8).toNat = 48 := rfl
  omega
theorem L_head (s : ByteArray) (h : 0 < s.size) : (L s).head? = some s[0] := by
  rw [List.head?_eq_getElem?, List.getElem?_eq_getElem (by rw [L_len]; exact h)]
  rfl
theorem rd_take_lt {l : List UInt8} (h : ∀ c ∈ l, isD c) (k : Nat) : rd (l.take k) < 10 ^ (l.take k).length := rd_lt _ (fun c hc => h c (List.mem_of_mem_take hc))
end Go.Proofs.Ytnkhgkpijfohkaa
namespace Go.Proofs.Ytnkhgkpijfohkaa
open Go.RowKit
set_option linter.unusedVariables false
set_option linter.unusedSimpArgs false

theorem only_setCell {a w : World} {g : Nat} (h : a.grownBy w (some g)) (i : Nat) (u : Value) : a.grownBy (w.setCell ⟨g, i, none⟩ u) (some g) :=
  ⟨h.os, h.tape, h.output, by simpa [World.setCell] using h.size, fun i hi hne => (Below.heap_setCell w _ u i (by
    rintro rfl
    exact hne rfl)).trans (h.block i hi hne)⟩
/-- What is in the loop of timesAnd. -/
structure Tma (w : World) (base : Nat) (A : Option Addr) (n c : Nat) (xs : List Nat) (f z i k : Nat) (wr : World) : Prop where
  ss : ∃ ss, ss.length = i ∧ Lo ss ∧ val ss + B ^ i * k = val (xs.take i) * f + z ∧ wr.ownsRow base 79 1 (.slice A n c) n ((ss ++ xs.drop i).map lv)
  kb : k < 4294967296
  gr : w.grownBy wr (Value.slice A n c).ownBlock
theorem tma_step {P V X S f x k z T : Nat} (h : V + P * k = X * f + z) (ht : T = x * f + k) : V + P * (T % 4294967296) + P * 4294967296 * (T / 4294967296) = (X + P * x) * f + z := by
  have e2 : T = T % 4294967296 + 4294967296 * (T / 4294967296) := by omega
  have e3 : P * T = P * (T % 4294967296) + P * 4294967296 * (T / 4294967296) := by
    conv => lhs; rw [e2, Nat.mul_add, ← Nat.mul_assoc]
  have e4 : P * T = P * (x * f) + P * k := by rw [ht, Nat.mul_add]
  rw [Nat.add_mul, Nat.mul_assoc P x f]
  omega
theorem Tma.step {w : World} {base g n c : Nat} {xs : List Nat} {f z i k : Nat} {wr : World} (h : Tma w base (some ⟨g, 0, none⟩) n c xs f z i k wr) (hf : f < 4294967296) (hi : i < xs.length) (hn : xs.length = n) (lx : Lo xs) :
    wr.cell? ⟨g, i, none⟩ = some (lv xs[i]) ∧ wr.frozen? ⟨g, i, none⟩ = false ∧
      Tma w base (some ⟨g, 0, none⟩) n c xs f z (i + 1) ((xs[i] * f + k) / 4294967296) (wr.setCell ⟨g, i, none⟩ (lv ((xs[i] * f + k) % 4294967296))) := by
  obtain ⟨ss, hl, lo, hv, own⟩ := h.ss
  have hk := h.kb
  have hx := lx.at_ i hi
  have hxf : xs[i] * f ≤ 4294967295 * 4294967295 := Nat.mul_le_mul (by omega) (by omega)
  have ed : xs.drop i = xs[i] :: xs.drop (i + 1) := List.drop_eq_getElem_cons hi
  refine ⟨?_, own.frozenAt i, ⟨ss ++ [(xs[i] * f + k) % 4294967296], by simp [hl], lo.append (.cons (Nat.mod_lt _ (by decide)) .nil), ?_, ?_⟩, ?_, ?_⟩
  · rw [own.cellAt i (by omega), List.getElem?_map, List.getElem?_append_right (by omega), hl, Nat.sub_self, ed]
    rfl
  · rw [val_snoc, hl, val_take_succ xs i hi, Nat.pow_succ, show B ^ i * B = B ^ i * 4294967296 by rw [B_eq]]
    exact tma_step (S := 0) hv rfl
  · have := (own.stored i (lv ((xs[i] * f + k) % 4294967296))).1
    rw [← List.map_set, ed, List.set_append_right _ _ (by omega), hl, Nat.sub_self, List.set_cons_zero] at this
    rw [List.append_assoc]
    exact this
  · generalize xs[i] * f = q at *
    omega
  · exact only_setCell h.gr i _
/-- A natural of the call's own. -/
def RetM (w : World) (base : Nat) (v : Value) (r : Nat) (e : Ending) (w' : World) : Prop := ∃ v', e = .returned v' ∧ w'.ownsRow base 79 1 v' (ln r) ((limbs r).map lv) ∧ w.grownBy w' v.ownBlock
theorem limbs_of {ys : List Nat} (lo : Lo ys) (h : ys = [] ∨ B ^ (ys.length - 1) ≤ val ys) : ys = limbs (val ys) := by
  refine (limbs_val lo (fun hn => ?_)).symm
  rcases h with h | h
  · exact absurd h hn
  · have hl : 0 < ys.length := List.length_pos_iff.2 hn
    rw [List.getLast_eq_getElem]
    exact top_ne (m := ys.length - 1) (by omega) lo h
theorem cast_div3 (y k : Nat) : ((y : Int) * 1000000000 + (k : Int)) / 4294967296 = (((y * 1000000000 + k) / 4294967296 : Nat) : Int) := by omega
theorem cast_mod3 (y k : Nat) : ((y : Int) * 1000000000 + (k : Int)) % 4294967296 = (((y * 1000000000 + k) % 4294967296 : Nat) : Int) := by omega

end Go.Proofs.Ytnkhgkpijfohkaa
namespace Go.Proofs.Ytnkhgkpijfohkaa
open Go.RowKit
set_option linter.unusedVariables false
set_option linter.unusedSimpArgs false

theorem own_form {w : World} {base n : Nat} {v : Value} {xs : List Value} (h : w.ownsRow base 79 1 v n xs) : ∃ A c, v = .slice A n c ∧ (0 < n → ∃ g, A = some ⟨g, 0, none⟩) := by
  rcases h.2 with ⟨rfl, rfl⟩ | ⟨g, cap, cur, rfl, _⟩
  · exact ⟨none, 0, rfl, fun h => absurd h (by omega)⟩
  · exact ⟨_, cap, rfl, fun _ => ⟨g, rfl⟩⟩
/-- What is in the loop of Read. -/
structure Rdr (w : World) (s : ByteArray) (q : Nat) (s0 s4 : Value) (wr : World) : Prop where
  ex : ∃ (p : List UInt8) (t : ByteArray) (A : Option Addr) (n c : Nat), s0 = .string t ∧ t.size = q ∧ s4 = .slice A n c ∧ L s = p ++ L t ∧ (p = [] ∨ t.size % 9 = 0) ∧
    wr.ownsRow w.heap.size 79 1 (.slice A n c) n ((limbs (rd p)).map lv) ∧ (0 < n → ∃ g, A = some ⟨g, 0, none⟩) ∧ n ≤ 64
  bl : Below w.heap.size w wr

end Go.Proofs.Ytnkhgkpijfohkaa
namespace Go.Proofs.Ytnkhgkpijfohkaa
open Go.RowKit
set_option linter.unusedVariables false
set_option linter.unusedSimpArgs false

/-- Are limbs the same? -/
@[irreducible] def sameB (xs ys : List Nat) : Bool := decide (xs = ys)
theorem sameB_yes (xs : List Nat) : sameB xs xs = true := by unfold sameB; simp
theorem sameB_no {xs ys : List Nat} (h : xs ≠ ys) : sameB xs ys = false := by unfold sameB; simpa using h
theorem sameB_iff {xs ys : List Nat} : sameB xs ys = true ↔ xs = ys := by unfold sameB; simp
theorem take_differ {xs ys : List Nat} {k : Nat} (hx : k < xs.length) (hy : k < ys.length) (h : xs[k] ≠ ys[k]) : xs ≠ ys := by
  rintro rfl; exact h rfl
theorem text_a : dtext 18446744073709551616 = [49, 56, 52, 52, 54, 55, 52, 52, 48, 55, 51, 55, 48, 57, 53, 53, 49, 54, 49, 54] := by
  rw [dtext_pos (by decide)]; simp [tens_step, dig]
theorem text_q : dtext 1844674407370955161 = [49, 56, 52, 52, 54, 55, 52, 52, 48, 55, 51, 55, 48, 57, 53, 53, 49, 54, 49] := by
  rw [dtext_pos (by decide)]; simp [tens_step, dig]
theorem text_d : dtext 6 = [54] := by
  rw [dtext_pos (by decide)]; simp [tens_step, dig]
theorem limbs_a : limbs 18446744073709551616 = [0, 0, 1] := by
  have := limbs_val (xs := [0, 0, 1]) (.cons (by decide) (.cons (by decide) (.cons (by decide) .nil))) (fun _ => by simp)
  rwa [val_cons, val_cons, val_cons, val_nil, B_eq] at this
theorem ln_small {n : Nat} (h : n < 340282366920938463463374607431768211457) : ln n ≤ 5 := by
  refine ln_le ?_
  rw [B_eq]
  refine Nat.lt_trans h (by decide +kernel)
theorem bl_m : bl 340282366920938463463374607431768211456 = 129 := bl_of (k := 128) (by decide) (by decide)
end Go.Proofs.Ytnkhgkpijfohkaa
namespace Go.Proofs.Ytnkhgkpijfohkaa
open Go.RowKit
set_option linter.unusedVariables false
set_option linter.unusedSimpArgs false

/-- Slices that lie there, with their limbs. -/
def Lies : List (Option Addr × Nat × Nat × List Nat) → World → Prop
  | [], _ => True
  | (A, n, c, xs) :: r, w => Lim w A n c xs ∧ Lies r w
theorem Lies.next {w w' : World} (hb : Below w.heap.size w w') : ∀ {l : List (Option Addr × Nat × Nat × List Nat)}, Lies l w → Lies l w'
  | [], _ => trivial
  | (_, _, _, _) :: _, h => ⟨h.1.next hb, Lies.next hb h.2⟩
/-- .. and nothing that was there has turned. -/
structure Sts (w : World) (l : List (Option Addr × Nat × Nat × List Nat)) (wx : World) : Prop where
  lie : Lies l wx
  bl : Below w.heap.size w wx
theorem Sts.start (w : World) : Sts w [] w := ⟨trivial, Below.refl _ _⟩
theorem Sts.next {w : World} {l : List (Option Addr × Nat × Nat × List Nat)} {W w1 : World} (s : Sts w l W) (hb : Below W.heap.size W w1) : Sts w l w1 := ⟨s.lie.next hb, below_step s.bl hb⟩
theorem Sts.drewN {w : World} {l : List (Option Addr × Nat × Nat × List Nat)} {W : World} (s : Sts w l W) (m : Nat) : Sts w l (W.drewN m) := s.next (below_drewN (Below.refl _ _) m)
theorem Sts.drew {w : World} {l : List (Option Addr × Nat × Nat × List Nat)} {W : World} (s : Sts w l W) : Sts w l W.drew := s.next (Below.refl _ _).drew
theorem Sts.put {w : World} {l : List (Option Addr × Nat × Nat × List Nat)} {W : World} {A : Option Addr} {n c : Nat} {xs : List Nat} (s : Sts w l W) (h : Lim W A n c xs) : Sts w ((A, n, c, xs) :: l) W := ⟨⟨h, s.lie⟩, s.bl⟩

theorem eN1 : 18446744073709551616 / 10 = 1844674407370955161 := by decide
theorem eN2 : 18446744073709551616 % 10 = 6 := by decide
theorem eN3 : 18446744073709551616 * 18446744073709551616 = 340282366920938463463374607431768211456 := by decide
theorem eN4 : Nat.gcd 12 18 = 6 := by decide
theorem lN : ln 18446744073709551616 ≤ 64 := Nat.le_trans (ln_small (by decide)) (by decide)
theorem lM : ln 340282366920938463463374607431768211456 ≤ 64 := Nat.le_trans (ln_small (by decide)) (by decide)
theorem ln_tiny {n : Nat} (h : n ≤ 1844674407370955161) : ln n ≤ 64 := Nat.le_trans (ln_small (by omega)) (by decide)
end Go.Proofs.Ytnkhgkpijfohkaa
namespace Go.Proofs.Ytnkhgkpijfohkaa
theorem ln_mul {a b n m : Nat} (ha : ln a ≤ n) (hb : ln b ≤ m) : ln (a * b) ≤ n + m := by
  refine ln_le ?_
  rw [Nat.pow_add]
  have h1 := Nat.lt_of_lt_of_le (lt_ln a) (Nat.pow_le_pow_right B_pos ha)
  have h2 := Nat.lt_of_lt_of_le (lt_ln b) (Nat.pow_le_pow_right B_pos hb)
  exact Nat.mul_lt_mul'' h1 h2
theorem ln_add {a b n : Nat} (ha : ln a ≤ n) (hb : ln b ≤ n) : ln (a + b) ≤ n + 1 := by
  refine ln_le ?_
  rw [Nat.pow_succ]
  have h1 := Nat.lt_of_lt_of_le (lt_ln a) (Nat.pow_le_pow_right B_pos ha)
  have h2 := Nat.lt_of_lt_of_le (lt_ln b) (Nat.pow_le_pow_right B_pos hb)
  have h3 : B ^ n * 2 ≤ B ^ n * B := Nat.mul_le_mul_left _ (by rw [B_eq]; decide)
  omega
theorem bl_mono {a b : Nat} (h : a ≤ b) : bl a ≤ bl b := bl_le (Nat.lt_of_le_of_lt h (lt_bl b))
theorem bl_eq_zero {a : Nat} (h : bl a = 0) : a = 0 := by
  apply Decidable.byContradiction
  intro k
  have := bl_pos k
  omega
theorem bl_mul {a b : Nat} (ha : a ≠ 0) (hb : b ≠ 0) : bl (a * b) = bl a + bl b ∨ bl (a * b) + 1 = bl a + bl b := by
  have a1 := lt_bl a; have a2 := le_bl ha; have a3 := bl_pos ha
  have b1 := lt_bl b; have b2 := le_bl hb; have b3 := bl_pos hb
  have hi : a * b < 2 ^ (bl a + bl b) := by rw [Nat.pow_add]; exact Nat.mul_lt_mul'' a1 b1
  have lo : 2 ^ (bl a - 1 + (bl b - 1)) ≤ a * b := by rw [Nat.pow_add]; exact Nat.mul_le_mul a2 b2
  have u := bl_le hi
  have nz : a * b ≠ 0 := Nat.mul_ne_zero ha hb
  have l : bl a - 1 + (bl b - 1) < bl (a * b) := pow_lt_pow_iff (Nat.lt_of_le_of_lt lo (lt_bl _))
  omega
theorem bl_add (a b : Nat) : max (bl a) (bl b) ≤ bl (a + b) ∧ bl (a + b) ≤ max (bl a) (bl b) + 1 := by
  have m1 := bl_mono (show a ≤ a + b by omega)
  have m2 := bl_mono (show b ≤ a + b by omega)
  refine ⟨Nat.max_le.2 ⟨m1, m2⟩, bl_le ?_⟩
  rw [Nat.pow_succ]
  have h1 := Nat.lt_of_lt_of_le (lt_bl a) (Nat.pow_le_pow_right (n := 2) (by decide) (Nat.le_max_left (bl a) (bl b)))
  have h2 := Nat.lt_of_lt_of_le (lt_bl b) (Nat.pow_le_pow_right (n := 2) (by decide) (Nat.le_max_right (bl a) (bl b)))
  omega
theorem bl_ln {a : Nat} {n : Nat} (h : ln a ≤ n) : bl a ≤ 32 * n := by
  refine bl_le ?_
  rw [← B_pow]
  exact Nat.lt_of_lt_of_le (lt_ln a) (Nat.pow_le_pow_right B_pos h)
end Go.Proofs.Ytnkhgkpijfohkaa
namespace Go.Proofs.Ytnkhgkpijfohkaa
open Go.RowKit
set_option linter.unusedVariables false
set_option linter.unusedSimpArgs false

/-- Blocks of two cells that lie there, with what is in them. -/
def Cels : List (Nat × Value × Value) → World → Prop
  | [], _ => True
  | (b, u, v) :: r, w => (w.cell? ⟨b, 0, none⟩ = some u ∧ w.cell? ⟨b, 1, none⟩ = some v ∧ w.frozen? ⟨b, 0, none⟩ = false ∧ w.frozen? ⟨b, 1, none⟩ = false ∧ b < w.heap.size) ∧ Cels r w
theorem Cels.next {w w' : World} (hb : Below w.heap.size w w') : ∀ {l : List (Nat × Value × Value)}, Cels l w → Cels l w'
  | [], _ => trivial
  | (_, _, _) :: _, h => ⟨⟨keep_cell hb h.1.1, keep_cell hb h.1.2.1, keep_melt hb h.1.1 h.1.2.2.1, keep_melt hb h.1.2.1 h.1.2.2.2.1, Nat.lt_of_lt_of_le h.1.2.2.2.2 hb.size⟩, Cels.next hb h.2⟩
/-- What lies there, in a call that began at w. -/
structure Fs (w : World) (cs : List (Nat × Value × Value)) (l : List (Option Addr × Nat × Nat × List Nat)) (wx : World) : Prop where
  lie : Lies l wx
  cel : Cels cs wx
  bl : Below w.heap.size w wx
section
variable {w W w1 : World} {cs : List (Nat × Value × Value)} {l : List (Option Addr × Nat × Nat × List Nat)}
theorem Fs.start (w : World) : Fs w [] [] w := ⟨trivial, trivial, Below.refl _ _⟩
theorem Fs.next (s : Fs w cs l W) (hb : Below W.heap.size W w1) : Fs w cs l w1 := ⟨s.lie.next hb, s.cel.next hb, below_step s.bl hb⟩
theorem Fs.drew (s : Fs w cs l W) : Fs w cs l W.drew := s.next (Below.refl _ _).drew
theorem Fs.put {A : Option Addr} {n c : Nat} {xs : List Nat} (s : Fs w cs l W) (h : Lim W A n c xs) : Fs w cs ((A, n, c, xs) :: l) W := ⟨⟨h, s.lie⟩, s.cel, s.bl⟩
end
theorem Lim.setSl {w : World} {A B : Option Addr} {n c m k : Nat} {xs : List Nat} {p : Addr} (h : Lim w A n c xs) (hc : w.cell? p = some (.slice B m k)) (u : Value) : Lim (w.setCell p u) A n c xs :=
  ⟨h.len, h.cap, h.top, fun j hj => by
    obtain ⟨ad, e, q⟩ := h.at_ j hj
    exact ⟨ad, e, (World.cell?_setCell_other _ _ _ _ (fun z => by first | (rw [z, hc] at q; cases q) | (rw [← z, hc] at q; cases q))).trans q⟩, h.lo⟩
theorem Lim.put2 {w : World} {A B B' : Option Addr} {n c m k m' k' R : Nat} {xs : List Nat} (h : Lim w A n c xs) (c0 : w.cell? ⟨R, 0, none⟩ = some (.slice B m k)) (c1 : w.cell? ⟨R, 1, none⟩ = some (.slice B' m' k')) (u v : Value) : Lim ((w.setCell ⟨R, 0, none⟩ u).setCell ⟨R, 1, none⟩ v) A n c xs :=
  (h.setSl c0 u).setSl (B := B') (m := m') (k := k') ((World.cell?_setCell_other _ _ _ _ (by simp)).trans c1) v

/-- It is a fraction. -/
def Fr (xs ys : List Nat) : Prop := Nt xs ∧ Nt ys ∧ ys ≠ [] ∧ Nat.gcd (val xs) (val ys) = 1
open Classical in
/-- .. as a bool. -/
@[irreducible] noncomputable def frB (xs ys : List Nat) : Bool := decide (Fr xs ys)
open Classical in
theorem frB_yes {xs ys : List Nat} (h : Fr xs ys) : frB xs ys = true := by unfold frB; exact decide_eq_true h
open Classical in
theorem frB_no {xs ys : List Nat} (h : ¬ Fr xs ys) : frB xs ys = false := by unfold frB; exact decide_eq_false h

theorem sgn_one (g : Nat) : (sgn g 1 == 0) = (g == 1) := by
  by_cases h : g = 1
  · subst h; rw [sgn_eq]; rfl
  · rw [show (g == 1) = false by simpa using h]
    rcases Nat.lt_or_gt_of_ne h with k | k
    · rw [sgn_lt k]; rfl
    · rw [sgn_gt k]; rfl
theorem ln_gcd {a b : Nat} (la : ln a ≤ 64) (lb : ln b ≤ 64) : ln (Nat.gcd a b) ≤ 64 := by
  by_cases z : a = 0
  · subst z; rw [Nat.gcd_zero_left]; exact lb
  · exact Nat.le_trans (ln_mono (Nat.gcd_le_left _ (by omega))) la
/-- A fraction in plain numbers. -/
structure Fq (p q : Nat) : Prop where
  lp : ln p ≤ 64
  lq : ln q ≤ 64
  q0 : q ≠ 0
  co : Nat.gcd p q = 1
theorem Fr.num {xs ys : List Nat} (h : Fr xs ys) (l1 : Lo xs) (l2 : Lo ys) : Fq (val xs) (val ys) ∧ xs = limbs (val xs) ∧ ys = limbs (val ys) := by
  have e1 := h.1.eq l1
  have e2 := h.2.1.eq l2
  have a1 : ln (val xs) = xs.length := by rw [← limbs_length, ← e1]
  have a2 : ln (val ys) = ys.length := by rw [← limbs_length, ← e2]
  have m1 := h.1.1; have m2 := h.2.1.1
  refine ⟨⟨by omega, by omega, fun z => ?_, h.2.2.2⟩, e1, e2⟩
  rw [z, limbs_zero] at e2
  exact h.2.2.1 e2
theorem Fq.fr {p q : Nat} (h : Fq p q) : Fr (limbs p) (limbs q) := ⟨.of h.lp, .of h.lq, fun z => h.q0 (by rw [← val_limbs q, z, val_nil]), by rw [val_limbs, val_limbs]; exact h.co⟩

/-- A pair of naturals and an error's number. -/
abbrev Ans := Nat × Nat × Int
/-- What a call answers that makes a fraction. -/
def RetR (p q : Nat) (w : World) (e : Ending) (w' : World) : Prop := ∃ A n c A' n' c', e = .returned (.agg #[.slice A n c, .slice A' n' c']) ∧ Lim w' A n c (limbs p) ∧ Lim w' A' n' c' (limbs q) ∧ Below w.heap.size w w'
/-- .. and an error. -/
def RetA3 (r : Ans) (w : World) (e : Ending) (w' : World) : Prop := ∃ A n c A' n' c', e = .returned (.tuple #[.agg #[.slice A n c, .slice A' n' c'], .int .i64 r.2.2]) ∧ Lim w' A n c (limbs r.1) ∧ Lim w' A' n' c' (limbs r.2.1) ∧ Below w.heap.size w w'

end Go.Proofs.Ytnkhgkpijfohkaa
namespace Go.Proofs.Ytnkhgkpijfohkaa
open Go.RowKit
set_option linter.unusedVariables false
set_option linter.unusedSimpArgs false

/-- Two naturals and an error. -/
def RetP (x y : Nat) (t : Int) (w : World) (e : Ending) (w' : World) : Prop := ∃ A n c A' n' c', e = .returned (.tuple #[.slice A n c, .slice A' n' c', .int .i64 t]) ∧ Lim w' A n c (limbs x) ∧ Lim w' A' n' c' (limbs y) ∧ Below w.heap.size w w'
/-- The fraction of two numbers, reduced. -/
def red (x y : Nat) : Ans := (x / Nat.gcd x y, y / Nat.gcd x y, 0)
end Go.Proofs.Ytnkhgkpijfohkaa
namespace Go.Proofs.Ytnkhgkpijfohkaa
open Go.RowKit
set_option linter.unusedVariables false
set_option linter.unusedSimpArgs false

end Go.Proofs.Ytnkhgkpijfohkaa
namespace Go.Proofs.Ytnkhgkpijfohkaa
open Go.RowKit
set_option linter.unusedVariables false
set_option linter.unusedSimpArgs false

/-- Sum, difference, product, quotient: limbs above, below, and the error's number. -/
@[irreducible] def addR (p q p' q' : Nat) : Ans := if ln (q * q') ≤ 64 ∧ ln (p * q') ≤ 64 ∧ ln (p' * q) ≤ 64 ∧ ln (p * q' + p' * q) ≤ 64 then red (p * q' + p' * q) (q * q') else (0, 0, 6)
@[irreducible] def subR (p q p' q' : Nat) : Ans := if ln (q * q') ≤ 64 ∧ ln (p * q') ≤ 64 ∧ ln (p' * q) ≤ 64 then (if p' * q ≤ p * q' then red (p * q' - p' * q) (q * q') else (0, 0, 1)) else (0, 0, 6)
@[irreducible] def mulR (p q p' q' : Nat) : Ans := if ln (p * p') ≤ 64 ∧ ln (q * q') ≤ 64 then red (p * p') (q * q') else (0, 0, 6)
@[irreducible] def divR (p q p' q' : Nat) : Ans := if p' = 0 then (0, 0, 7) else if ln (p * q') ≤ 64 ∧ ln (p' * q) ≤ 64 then red (p * q') (p' * q) else (0, 0, 6)
@[irreducible] def cmpN (p q p' q' : Nat) : Int := if ln (p * q') ≤ 64 ∧ ln (p' * q) ≤ 64 then sgn (p * q') (p' * q) else 0
@[irreducible] def cmpE (p q p' q' : Nat) : Int := if ln (p * q') ≤ 64 ∧ ln (p' * q) ≤ 64 then 0 else 6

section
variable {A A' D D' : Option Addr} {n c n' c' m k m' k' : Nat} {p q p' q' : Nat} {w : World}
end
theorem tens_len (n : Nat) : ∀ k, n < 10 ^ k → (tens n).length ≤ k := by
  induction n using Nat.strongRecOn with
  | _ n ih =>
    intro k hk
    by_cases h : n = 0
    · rw [h, tens_zero]; exact Nat.zero_le _
    · rw [tens_pos h, List.length_cons]
      cases k with
      | zero => simp at hk; exact absurd hk h
      | succ k =>
        have := ih (n / 10) (Nat.div_lt_self (Nat.pos_of_ne_zero h) (by decide)) k ((Nat.div_lt_iff_lt_mul (by decide)).2 (by rw [Nat.pow_succ] at hk; exact hk))
        omega
theorem dtext_len {a : Nat} (h : ln a ≤ 64) : (dtext a).length ≤ 1000 := by
  by_cases z : a = 0
  · rw [z, dtext_zero]; simp
  · rw [dtext_pos z, List.length_reverse, List.length_map]
    have := tens_len a _ (lt_630 h)
    omega
theorem cat3 (P Q : List UInt8) : (⟨P.toArray⟩ ++ ⟨#[47]⟩ ++ ⟨Q.toArray⟩ : ByteArray) = ⟨(P ++ 47 :: Q).toArray⟩ := by
  apply ByteArray.ext
  rw [ByteArray.data_append, ByteArray.data_append]
  simp
theorem keep_drew {w : World} {p : Addr} {v : Value} (h : w.cell? p = some v) : w.drew.cell? p = some v := h
theorem lim_z (w : World) : Lim w none 0 0 (limbs 0) := by rw [limbs_zero]; exact Lim.none_ _ _ _ (by decide)
theorem addR_yes {p q p' q' : Nat} (h0 : ln (q * q') ≤ 64) (h1 : ln (p * q') ≤ 64) (h2 : ln (p' * q) ≤ 64) (h3 : ln (p * q' + p' * q) ≤ 64) : addR p q p' q' = red (p * q' + p' * q) (q * q') := by unfold addR; rw [if_pos ⟨h0, h1, h2, h3⟩]
theorem subR_yes {p q p' q' : Nat} (h0 : ln (q * q') ≤ 64) (h1 : ln (p * q') ≤ 64) (h2 : ln (p' * q) ≤ 64) (h3 : p' * q ≤ p * q') : subR p q p' q' = red (p * q' - p' * q) (q * q') := by unfold subR; rw [if_pos ⟨h0, h1, h2⟩, if_pos h3]
theorem subR_low {p q p' q' : Nat} (h0 : ln (q * q') ≤ 64) (h1 : ln (p * q') ≤ 64) (h2 : ln (p' * q) ≤ 64) (h3 : p * q' < p' * q) : subR p q p' q' = (0, 0, 1) := by unfold subR; rw [if_pos ⟨h0, h1, h2⟩, if_neg (by omega)]
theorem mulR_yes {p q p' q' : Nat} (h0 : ln (p * p') ≤ 64) (h1 : ln (q * q') ≤ 64) : mulR p q p' q' = red (p * p') (q * q') := by unfold mulR; rw [if_pos ⟨h0, h1⟩]
theorem divR_zero {p q q' : Nat} : divR p q 0 q' = (0, 0, 7) := by unfold divR; rw [if_pos rfl]
theorem divR_yes {p q p' q' : Nat} (z : p' ≠ 0) (h0 : ln (p * q') ≤ 64) (h1 : ln (p' * q) ≤ 64) : divR p q p' q' = red (p * q') (p' * q) := by unfold divR; rw [if_neg z, if_pos ⟨h0, h1⟩]
theorem cmpN_yes {p q p' q' : Nat} (h0 : ln (p * q') ≤ 64) (h1 : ln (p' * q) ≤ 64) : cmpN p q p' q' = sgn (p * q') (p' * q) := by unfold cmpN; rw [if_pos ⟨h0, h1⟩]
theorem cmpE_yes {p q p' q' : Nat} (h0 : ln (p * q') ≤ 64) (h1 : ln (p' * q) ≤ 64) : cmpE p q p' q' = 0 := by unfold cmpE; rw [if_pos ⟨h0, h1⟩]
end Go.Proofs.Ytnkhgkpijfohkaa
namespace Go.Proofs.Ytnkhgkpijfohkaa
open Go.RowKit
set_option linter.unusedVariables false
set_option linter.unusedSimpArgs false
set_option maxHeartbeats 2000000
set_option maxRecDepth 100000
theorem U_low {n : Nat} (h : n < 18446744073709551616) : Wd.U n = .agg #[.int .u64 0, .int .u64 (n : Int)] := by
  have e1 : Wd.hi n = 0 := by unfold Wd.hi; omega
  have e2 : Wd.lo n = (n : Int) := by unfold Wd.lo; omega
  rw [Wd.U, e1, e2]
theorem fits_low {n : Nat} (h : n < 18446744073709551616) : Wd.Fits n := by unfold Wd.Fits; omega
theorem fits_prod {a b : Nat} (ha : a < 18446744073709551616) (hb : b < 18446744073709551616) : Wd.Fits (a * b) := by
  unfold Wd.Fits
  have : a * b ≤ 18446744073709551615 * 18446744073709551615 := Nat.mul_le_mul (by omega) (by omega)
  omega
theorem refProd_any (a b : Nat) (ha : a < 18446744073709551616) (hb : b < 18446744073709551616) (w : World) : Calls Try.prog 41 #[.int .u64 (a : Int), .int .u64 (b : Int)] w fun e w' => e = .returned (Wd.U (a * b)) ∧ Below w.heap.size w w' := by
  have KM := Lib.hid (fun W => Wd.refMul_any a b (fits_low ha) (fits_low hb) W)
  rw [U_low ha, U_low hb, Wd.cut_yes (fits_prod ha hb), Wd.fitsB_yes (fits_prod ha hb)] at KM
  obtain ⟨p, hp⟩ : ∃ p, p = a * b := ⟨_, rfl⟩
  rw [← hp] at KM ⊢
  clear hp
  have M := One.new w #[.int .u64 0, .int .u64 0] 59
  obtain ⟨g, hg⟩ : ∃ g, w.heap.size = g := ⟨_, rfl⟩
  rw [hg] at M
  go_enter Try.func41, Try.ntmps41
  go_wp2_with fail
  clear hg
  generalize w.alloc (.cells #[.int .u64 0, .int .u64 0] 59) = W0 at *
  refine (KM.out _).mono ?_
  rintro e W ⟨rfl, B⟩
  replace M := M.next B
  have D := M.two #[.int .u64 (Wd.hi p), .int .u64 (Wd.lo p)] 59
  obtain ⟨c0, c1⟩ := D.bg.two
  have m0 := D.bg.melt 0; have m1 := D.bg.melt 1
  obtain ⟨r, hr⟩ : ∃ r, W.heap.size = r := ⟨_, rfl⟩
  rw [hr] at D
  go_wp2_with fail
  replace D := D.swap.put2 (.int .u64 (Wd.hi p)) (.int .u64 (Wd.lo p))
  obtain ⟨z0, z1⟩ := D.br.two
  exact bodyPost_ret (v := Wd.U p) (by simp [results, Try.results41, go_sem, z0, z1]) rfl ⟨rfl, D.bl⟩
theorem sgn_same (a b : Nat) : Wd.sgn a b = sgn a b := by unfold Wd.sgn sgn; rfl
theorem refCmp10_any (a b : It) (ha : a.Fit) (hb : b.Fit) (w : World) : Calls Try.prog 31 #[itv a, itv b] w fun e w' => e = .returned (.int .i64 (cmpI a b)) ∧ Below w.heap.size w w' := by
  obtain ⟨ak, au, aw⟩ := a
  obtain ⟨bk, bu, bw⟩ := b
  have fa := ha.u; have fa2 := ha.w; have fb := hb.u; have fb2 := hb.w
  dsimp only at fa fa2 fb fb2
  have K1 := Lib.hid (fun W => refProd_any au bw fa fb2 W)
  have K2 := Lib.hid (fun W => refProd_any bu aw fb fa2 W)
  have KC := Lib.hid (fun W => Wd.refCmp_any (au * bw) (bu * aw) (fits_prod fa fb2) (fits_prod fb fa2) W)
  rw [sgn_same] at KC
  have CS := Lib.hid (show cmpI ⟨ak, au, aw⟩ ⟨bk, bu, bw⟩ = if sgn (au * bw) (bu * aw) = 0 then ksg ak bk else sgn (au * bw) (bu * aw) by unfold cmpI; rfl)
  generalize au * bw = p at *
  generalize bu * aw = q at *
  generalize sgn p q = c at *
  clear fa fa2 fb fb2 ha hb
  have D := Duo.new w #[.string ak, .int .u64 (au : Int), .int .u64 (aw : Int)] #[.string bk, .int .u64 (bu : Int), .int .u64 (bw : Int)] 25 25
  obtain ⟨g, hg⟩ : ∃ g, w.heap.size = g := ⟨_, rfl⟩
  rw [hg] at D
  go_enter Try.func31, Try.ntmps31
  go_wp2_with fail
  clear hg
  generalize (w.alloc (.cells #[.string ak, .int .u64 (au : Int), .int .u64 (aw : Int)] 25)).alloc (.cells #[.string bk, .int .u64 (bu : Int), .int .u64 (bw : Int)] 25) = W at *
  generalize g + 1 = r at *
  obtain ⟨a0, a1, a2⟩ := D.bg.three
  obtain ⟨b0, b1, b2⟩ := D.br.three
  have BW := Lib.hid D.bl
  go_region_held3 (fun w' => w'.cell? ⟨g, 0, none⟩ = some (.string ak) ∧ w'.cell? ⟨g, 1, none⟩ = some (.int .u64 (au : Int)) ∧ w'.cell? ⟨g, 2, none⟩ = some (.int .u64 (aw : Int)) ∧ w'.cell? ⟨r, 0, none⟩ = some (.string bk) ∧ w'.cell? ⟨r, 1, none⟩ = some (.int .u64 (bu : Int)) ∧ w'.cell? ⟨r, 2, none⟩ = some (.int .u64 (bw : Int)))
    ((refine ⟨?_, ?_, ?_, ?_, ?_, ?_⟩ <;> (repeat (first | with_reducible exact a0 | with_reducible exact a1 | with_reducible exact a2 | with_reducible exact b0 | with_reducible exact b1 | with_reducible exact b2 | with_reducible refine keep_drew ?_ | with_reducible refine keep_cell (by assumption) ?_))))
    (first
      | (go_at_call 41; (with_reducible refine (K1.out _).mono ?_); rintro e z ⟨rfl, BZ⟩)
      | (go_at_call 41; (with_reducible refine (K2.out _).mono ?_); rintro e z ⟨rfl, BZ⟩)
      | (go_at_call 40; (with_reducible refine (KC.out _).mono ?_); rintro e z ⟨rfl, BZ⟩))
  rename_i z1 B1 z2 B2 H6
  have BL := Lib.hid (below_step (below_step (below_step BW.out.drew B1) B2) BZ)
  obtain ⟨e0, e1, e2, f0, f1, f2⟩ := H6
  clear a0 a1 a2 b0 b1 b2 e1 e2 f1 f2 B1 B2 BZ D K1 K2 KC
  by_cases hc : c = 0
  · rw [if_pos hc] at CS
    cases h1 : Op.bytesLess ak.toList bk.toList
    · cases h2 : Op.bytesLess bk.toList ak.toList
      · have E : Hid (ksg ak bk = 0) := by unfold ksg; rw [h1, h2]; rfl
        have h3 : ak.toList = bk.toList := bl_eq h1 h2
        have h4 : (ak.toList == bk.toList) = true := by simpa using h3
        clear h3
        go_wp2_with fail
        go_ret
        exact ⟨by rw [CS.out, E.out]; rfl, BL.out⟩
      · have E : Hid (ksg ak bk = 1) := by unfold ksg; rw [h1, h2]; rfl
        have h4 : (ak.toList == bk.toList) = false := by
          cases q : (ak.toList == bk.toList) with
          | false => rfl
          | true => rw [eq_of_beq q, bl_irr] at h2; exact absurd h2 (by decide)
        go_wp2_with fail
        go_ret
        exact ⟨by rw [CS.out, E.out]; rfl, BL.out⟩
    · have E : Hid (ksg ak bk = -1) := by unfold ksg; rw [h1]; rfl
      go_wp2_with fail
      go_ret
      exact ⟨by rw [CS.out, E.out]; rfl, BL.out⟩
  · rw [if_neg hc] at CS
    have hb : (c == 0) = false := by simpa using hc
    go_wp2_with fail
    go_ret
    exact ⟨by rw [CS.out]; rfl, BL.out⟩
end Go.Proofs.Ytnkhgkpijfohkaa
namespace Go.Proofs.Ytnkhgkpijfohkaa
open Go.RowKit
set_option linter.unusedVariables false
set_option linter.unusedSimpArgs false
set_option maxHeartbeats 2000000
set_option maxRecDepth 100000
/-- May it be? -/
def mayB (x : It) : Bool := decide (x.k.size ≤ 64) && decide (0 < x.w)
theorem refMay_any (x : It) (w : World) : Calls Try.prog 21 #[itv x] w fun e w' => e = .returned (.bool (mayB x)) ∧ Below w.heap.size w w' := by
  obtain ⟨k, u, v⟩ := x
  have E : Hid (mayB ⟨k, u, v⟩ = (decide (k.size ≤ 64) && decide (0 < v))) := by unfold mayB; exact rfl
  by_cases h1 : k.size ≤ 64
  · have l1 : (k.size : Int) ≤ 64 := by omega
    by_cases h2 : 0 < v
    · have l2 : (0 : Int) < v := by omega
      rw [decide_eq_true h1, decide_eq_true h2] at E
      go_enter Try.func21, Try.ntmps21
      go_wp2_with fail
      go_ret
      exact ⟨by rw [E.out]; rfl, below_al (Below.refl _ _) _⟩
    · have l2 : ¬ (0 : Int) < v := by omega
      rw [decide_eq_true h1, decide_eq_false h2] at E
      go_enter Try.func21, Try.ntmps21
      go_wp2_with fail
      go_ret
      exact ⟨by rw [E.out]; rfl, below_al (Below.refl _ _) _⟩
  · have l1 : ¬ (k.size : Int) ≤ 64 := by omega
    rw [decide_eq_false h1] at E
    go_enter Try.func21, Try.ntmps21
    go_wp2_with fail
    go_ret
    exact ⟨by rw [E.out]; rfl, below_al (Below.refl _ _) _⟩
theorem refAll_any {A : Option Addr} {n c : Nat} {s : List It} {w : World} (h : Its w A n c s) (hn : n ≤ 1000000) : Calls Try.prog 25 #[.slice A n c] w fun e w' => e = .returned (.bool (s.all mayB)) ∧ Below w.heap.size w w' := by
  have H := Lib.hid h
  have HL := Lib.hid h.len
  have KM := Lib.hid (fun x W => refMay_any x W)
  clear h
  have hz : (n : Int) ≤ 1000000 := by omega
  go_enter Try.func25, Try.ntmps25
  go_wp2_with fail
  go_loopg [3] n (fun q s3 wr => ∃ i : Nat, i + q = n ∧ s3 = .int .i64 (i : Int) ∧ Hid ((s.take i).all mayB = true) ∧ Hid (Below w.heap.size w wr))
  case atStart => exact ⟨0, by omega, rfl, rfl, Below.refl _ _⟩
  case round =>
    obtain ⟨i, hq, rfl, hall, hb⟩ := hrel
    have HQ := Lib.hid hq
    by_cases lt : i < n
    · have i1 : (i : Int) < n := by omega
      have i0 : (0 : Int) ≤ i := by omega
      obtain ⟨ad, hj, rfl, a0, a1, a2, ft⟩ := (H.out.next hb.out).read i lt
      have ST : Hid ((s.take (i + 1)).all mayB = mayB s[i]) := by
        unfold Hid
        rw [List.take_succ_eq_append_getElem hj, List.all_append, hall.out, Bool.true_and]
        simp
      have K := Lib.hid (KM.out s[i] wr)
      clear hq ft
      go_wp2_with fail
      refine K.out.mono ?_
      rintro e z ⟨rfl, B⟩
      have BZ := Lib.hid (hb.out.trans (B.mono hb.out.size))
      cases hm : mayB s[i]
      · have E : Hid (s.all mayB = false) := by
          unfold Hid
          rw [List.all_eq_false]
          exact ⟨s[i], List.getElem_mem hj, by rw [hm]; decide⟩
        go_wp2_with fail
        go_ret
        exact ⟨by rw [E.out]; rfl, BZ.out⟩
      · rw [hm] at ST
        go_wp2_with fail
        go_roundg (gk - 1)
        case measure => have := HQ.out; omega
        case rel =>
          go_light
          exact ⟨i + 1, by have := HQ.out; omega, by go_num, ST.out, BZ.out⟩
    · obtain rfl : i = n := by omega
      have i1 : ¬ (i : Int) < i := by omega
      have E : Hid (s.all mayB = true) := by
        have := hall.out
        rw [List.take_of_length_le (by rw [HL.out]; exact Nat.le_refl _)] at this
        exact this
      clear hq lt
      go_wp2_with fail
      go_ret
      exact ⟨by rw [E.out]; rfl, hb.out⟩
/-- Few, and short? -/
def smallB (s : List It) : Bool := decide (s.length ≤ 60) && s.all fun x => decide (x.k.size ≤ 100)
theorem refSmall10_any {A : Option Addr} {n c : Nat} {s : List It} {w : World} (h : Its w A n c s) : Calls Try.prog 8 #[.slice A n c] w fun e w' => e = .returned (.bool (smallB s)) ∧ Below w.heap.size w w' := by
  have H := Lib.hid h
  have HL := Lib.hid h.len
  have hl := h.len
  clear h
  by_cases h60 : n ≤ 60
  · have l1 : ¬ (60 : Int) < n := by omega
    have SB : Hid (smallB s = s.all fun x => decide (x.k.size ≤ 100)) := by unfold Hid smallB; rw [decide_eq_true (by rw [hl]; exact h60), Bool.true_and]
    clear hl
    have hz : (n : Int) ≤ 60 := by omega
    go_enter Try.func8, Try.ntmps8
    go_wp2_with fail
    go_loopg [3] n (fun q s3 wr => ∃ i : Nat, i + q = n ∧ s3 = .int .i64 (i : Int) ∧ Hid (((s.take i).all fun x => decide (x.k.size ≤ 100)) = true) ∧ w = wr)
    case atStart => exact ⟨0, by omega, rfl, rfl, rfl⟩
    case round =>
      obtain ⟨i, hq, rfl, hall, rfl⟩ := hrel
      have HQ := Lib.hid hq
      by_cases lt : i < n
      · have i1 : (i : Int) < n := by omega
        have i0 : (0 : Int) ≤ i := by omega
        obtain ⟨ad, hj, rfl, a0, a1, a2, ft⟩ := H.out.read i lt
        have ST : Hid (((s.take (i + 1)).all fun x => decide (x.k.size ≤ 100)) = decide (s[i].k.size ≤ 100)) := by
          unfold Hid
          rw [List.take_succ_eq_append_getElem hj, List.all_append, hall.out, Bool.true_and]
          simp
        clear hq ft
        by_cases hk : s[i].k.size ≤ 100
        · have k1 : ¬ (100 : Int) < s[i].k.size := by omega
          rw [decide_eq_true hk] at ST
          go_wp2_with fail
          go_roundg (gk - 1)
          case measure => have := HQ.out; omega
          case rel =>
            go_light
            exact ⟨i + 1, by have := HQ.out; omega, by go_num, ST.out, rfl⟩
        · have k1 : (100 : Int) < s[i].k.size := by omega
          have E : Hid (smallB s = false) := by
            unfold Hid
            rw [SB.out, List.all_eq_false]
            exact ⟨s[i], List.getElem_mem hj, by simpa using hk⟩
          go_wp2_with fail
          go_ret
          exact ⟨by rw [E.out]; rfl, Below.refl _ _⟩
      · obtain rfl : i = n := by omega
        have i1 : ¬ (i : Int) < i := by omega
        have E : Hid (smallB s = true) := by
          have := hall.out
          rw [List.take_of_length_le (by rw [HL.out]; exact Nat.le_refl _)] at this
          unfold Hid
          rw [SB.out, this]
        clear hq lt
        go_wp2_with fail
        go_ret
        exact ⟨by rw [E.out]; rfl, Below.refl _ _⟩
  · have l1 : (60 : Int) < n := by omega
    have E : Hid (smallB s = false) := by unfold Hid smallB; rw [decide_eq_false (by rw [hl]; exact h60), Bool.false_and]
    go_enter Try.func8, Try.ntmps8
    go_wp2_with fail
    go_ret
    exact ⟨by rw [E.out]; rfl, Below.refl _ _⟩
/-- Lists that are the same are told so. -/
theorem refSame10_yes {A B : Option Addr} {n c d : Nat} {s : List It} {w : World} (h : Its w A n c s) (h' : Its w B n d s) (hn : n ≤ 1000000) : Calls Try.prog 16 #[.slice A n c, .slice B n d] w fun e w' => e = .returned (.bool true) ∧ Below w.heap.size w w' := by
  have H := Lib.hid h
  have H2 := Lib.hid h'
  clear h h'
  have hz : (n : Int) ≤ 1000000 := by omega
  go_enter Try.func16, Try.ntmps16
  go_wp2_with fail
  go_loopg [5] n (fun q s5 wr => ∃ i : Nat, i + q = n ∧ s5 = .int .i64 (i : Int) ∧ Hid (Below w.heap.size w wr))
  case atStart => exact ⟨0, by omega, rfl, Below.refl _ _⟩
  case round =>
    obtain ⟨i, hq, rfl, hb⟩ := hrel
    have HQ := Lib.hid hq
    by_cases lt : i < n
    · have i1 : (i : Int) < n := by omega
      have i0 : (0 : Int) ≤ i := by omega
      obtain ⟨ad, hj, rfl, a0, a1, a2, _⟩ := (H.out.next hb.out).read i lt
      obtain ⟨ad', _, rfl, b0, b1, b2, _⟩ := (H2.out.next hb.out).read i lt
      have HB := Lib.hid hb.out
      clear hq hb
      go_wp2_with fail
      go_quiet (fail)
      go_wp2_with fail
      go_roundg (gk - 1)
      case measure => have := HQ.out; omega
      case rel =>
        go_light
        exact ⟨i + 1, by have := HQ.out; omega, by go_num, below_drewN HB.out nq⟩
    · obtain rfl : i = n := by omega
      have i1 : ¬ (i : Int) < i := by omega
      clear hq lt
      go_wp2_with fail
      go_ret
      exact ⟨rfl, hb.out⟩
end Go.Proofs.Ytnkhgkpijfohkaa
