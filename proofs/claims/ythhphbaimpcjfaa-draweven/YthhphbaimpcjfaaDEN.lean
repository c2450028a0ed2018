/- Rows of ints that a call counts in; the bits above a mask; draws of two words. -/
import Derived.Test.YthhphbaimpcjfaaDNB
namespace Go.Proofs.Ythhphbaimpcjfaa
open Go.RowKit
set_option linter.unusedVariables false
set_option linter.unusedSimpArgs false
/-- A count. -/
abbrev iv (x : Nat) : Value := .int .i64 (x : Int)
/-- Block g is just these counts. -/
structure Irow (w : World) (g : Nat) (xs : List Nat) : Prop where
  blk : w.heap[g]? = some (.cells (xs.map iv).toArray 3 (0, 0))
section
variable {w w' : World} {g : Nat} {xs : List Nat}
theorem Irow.lt (h : Irow w g xs) : g < w.heap.size := (Array.getElem?_eq_some_iff.1 h.blk).1
theorem Irow.cell (h : Irow w g xs) (i : Nat) (hi : i < xs.length) : w.cell? ⟨g, i, none⟩ = some (iv xs[i]) := by
  have := h.blk
  simp [World.cell?, this, hi]
theorem Irow.cell' (h : Irow w g xs) {i x : Nat} (hi : xs[i]? = some x) : w.cell? ⟨g, i, none⟩ = some (iv x) := by
  obtain ⟨a, b⟩ := List.getElem?_eq_some_iff.1 hi
  rw [h.cell i a, b]
theorem Irow.melt (h : Irow w g xs) (i : Nat) : w.frozen? ⟨g, i, none⟩ = false := by
  have := h.blk
  simp [World.frozen?, this]
theorem Irow.next (h : Irow w g xs) (hb : Below w.heap.size w w') : Irow w' g xs := ⟨(hb.block g h.lt).trans h.blk⟩
theorem Irow.set_ (h : Irow w g xs) (i v : Nat) : Irow (w.setCell ⟨g, i, none⟩ (iv v)) g (xs.set i v) := by
  refine ⟨?_⟩
  have := h.blk
  simp [World.setCell, Array.getElem?_modify, this]
theorem Irow.new (w : World) (xs : List Nat) : Irow (w.alloc (.cells (xs.map iv).toArray 3)) w.heap.size xs := ⟨heap_alloc_new w _⟩
end
theorem info_int : (Try.prog.info? 3).map (fun i => (i.zero, i.size, i.bytes)) = some (some (.int .i64 0), 1, 8) := by kernel_rfl
/-- A block of noughts. -/
@[irreducible] def zrowi (n : Nat) : Obj := .cells ((List.replicate n 0).map iv).toArray 3
theorem Irow.zeros (w : World) (n : Nat) : Irow (w.alloc (zrowi n)) w.heap.size (List.replicate n 0) := by unfold zrowi; exact Irow.new w _
theorem make_ints (n : Nat) (hn : n ≤ 1000000000000) (w : World) : (Instr.makeSlice 43 (.int .u64 (n : Int)) (.int .u64 (n : Int))).run Try.prog w =
    .ok (.slice (some ⟨w.heap.size, 0, none⟩) n n) (w.alloc (zrowi n)) := by
  unfold zrowi
  obtain ⟨i, hi, hz, hs, hb⟩ := info_parts info_int
  have hbytes : (i.bytes : Int) * (n : Int) ≤ 281474976710656 := by rw [hb]; omega
  have hr := run_make (P := Try.prog) w 43 3 i (.int .i64 0) Try.underlying43 hi hz .u64 .u64 n n (by omega) (by omega) hbytes (by omega)
  simp only [Int.toNat_natCast] at hr
  have e : madeCells (Value.int IntKind.i64 0).cells n = ((List.replicate n 0).map iv).toArray := by
    apply Array.ext'
    rw [show (Value.int IntKind.i64 0).cells = #[.int .i64 0] from rfl, toList_madeCells_one]
    simp
  rw [hr, hs, Nat.mul_one, e]

/-- So many of d are counted. -/
def cnt (d x : Nat) : List Nat := List.replicate (min x d) 1 ++ List.replicate (d - min x d) 0
theorem cnt_zero (d : Nat) : cnt d 0 = List.replicate d 0 := by simp [cnt]
theorem cnt_len (d x : Nat) : (cnt d x).length = d := by simp [cnt]; omega
theorem cnt_at {d x : Nat} (h : x < d) : (cnt d x)[x]? = some 0 := by
  unfold cnt
  rw [Nat.min_eq_left (by omega), List.getElem?_append_right (by simp), List.length_replicate, Nat.sub_self, List.getElem?_replicate, if_pos (by omega)]
theorem cnt_set {d x : Nat} (h : x < d) : (cnt d x).set x 1 = cnt d (x + 1) := by
  unfold cnt
  rw [Nat.min_eq_left (show x ≤ d by omega), Nat.min_eq_left (show x + 1 ≤ d by omega), List.set_append_right _ _ (by simp)]
  obtain ⟨r, hr⟩ : ∃ r, d - x = r + 1 := ⟨d - x - 1, by omega⟩
  rw [hr, show d - (x + 1) = r by omega, List.length_replicate, Nat.sub_self, List.replicate_succ, List.set_cons_zero, List.replicate_succ']
  simp
theorem cnt_stay {d x : Nat} (h : ¬ x < d) : cnt d (x + 1) = cnt d x := by
  unfold cnt
  rw [Nat.min_eq_right (by omega), Nat.min_eq_right (by omega)]
theorem cnt_all {d x : Nat} (h : d ≤ x) (i : Nat) (hi : i < d) : (cnt d x)[i]? = some 1 := by
  unfold cnt
  rw [Nat.min_eq_right h, List.getElem?_append_left (by simpa using hi)]
  simp [hi]

/-- What lies above the mask. -/
@[irreducible] def hup (h e : Nat) : Nat := h / 2 ^ e * 2 ^ e
theorem hup_eq (h e : Nat) : hup h e = h / 2 ^ e * 2 ^ e := by unfold hup; rfl
theorem hup_le (h e : Nat) : hup h e ≤ h := by rw [hup_eq]; exact Nat.div_mul_le_self h (2 ^ e)
theorem and_high (a e : Nat) (ha : a < 18446744073709551616) (he : e ≤ 64) : a &&& (18446744073709551615 - on e) = hup a e := by
  rw [hup_eq, on_eq]
  have p := Nat.two_pow_pos e
  have q := Nat.pow_le_pow_right (n := 2) (by decide) he
  have e64 : (2 : Nat) ^ 64 = 18446744073709551616 := by decide
  have ep : 2 ^ (64 - e) * 2 ^ e = 18446744073709551616 := by rw [← Nat.pow_add, Nat.sub_add_cancel he, e64]
  have em : 18446744073709551615 - (2 ^ e - 1) = (2 ^ (64 - e) - 1) * 2 ^ e := by
    rw [Nat.sub_mul, ep, Nat.one_mul]
    rw [e64] at q
    omega
  rw [em]
  apply Nat.eq_of_testBit_eq
  intro i
  rw [Nat.testBit_and, Nat.testBit_mul_two_pow, Nat.testBit_mul_two_pow, Nat.testBit_div_two_pow, Nat.testBit_two_pow_sub_one]
  by_cases h1 : e ≤ i
  · rw [Nat.sub_add_cancel h1]
    by_cases h2 : i < 64
    · simp [h1, show i - e < 64 - e by omega]
    · have : a.testBit i = false := by
        apply Nat.testBit_lt_two_pow
        refine Nat.lt_of_lt_of_le ha ?_
        rw [← e64]
        exact Nat.pow_le_pow_right (by decide) (by omega)
      simp [this]
  · simp [h1]
theorem u64_andNot_on (a e : Nat) (ha : a < 18446744073709551616) (he : e ≤ 64) : bits .andNot .u64 (a : Int) (on e : Int) = (hup a e : Int) := by
  have l := on_lt he
  rw [show (2 : Nat) ^ 64 = 18446744073709551616 from by decide] at l
  rw [u64_andNot_nat a (on e) ha l, and_high a e ha he]
theorem u64_or_low (a e x : Nat) (ha : a < 18446744073709551616) (hx : x < 2 ^ e) (he : e ≤ 64) : bits .or .u64 (hup a e : Int) (x : Int) = ((hup a e + x : Nat) : Int) := by
  have q := Nat.pow_le_pow_right (n := 2) (by decide) he
  rw [show (2 : Nat) ^ 64 = 18446744073709551616 from by decide] at q
  rw [Go.Proofs.Ythhphbaimpcjfaa.u64_or_nat _ _ (Nat.lt_of_le_of_lt (hup_le a e) ha) (by omega), hup_eq, or_apart _ _ _ hx]
theorem hup_mod (a e x : Nat) (hx : x < 2 ^ e) : (hup a e + x) % 2 ^ e = x := by
  rw [hup_eq, Nat.add_comm, Nat.add_mul_mod_self_right, Nat.mod_eq_of_lt hx]
theorem hup_lt (a e x : Nat) (ha : a < 18446744073709551616) (hx : x < 2 ^ e) (he : e ≤ 64) : hup a e + x < 18446744073709551616 := by
  obtain ⟨k, hk⟩ : ∃ k, 64 = k + e := ⟨64 - e, by omega⟩
  have e64 : (18446744073709551616 : Nat) = 2 ^ k * 2 ^ e := by rw [← Nat.pow_add, ← hk]
  have p := Nat.two_pow_pos e
  have h1 : a / 2 ^ e < 2 ^ k := by
    rw [Nat.div_lt_iff_lt_mul p, ← e64]; exact ha
  have h2 : (a / 2 ^ e + 1) * 2 ^ e ≤ 2 ^ k * 2 ^ e := Nat.mul_le_mul_right _ h1
  rw [Nat.add_mul, Nat.one_mul] at h2
  rw [hup_eq, e64]
  omega
/-- The mask of d is that of the least power of 2 which is no less. -/
theorem mb_least {d e : Nat} (h1 : d ≤ 2 ^ e) (h2 : e = 0 ∨ 2 ^ (e - 1) < d) : mb d = e := by
  have p := Nat.two_pow_pos e
  rcases h2 with rfl | h2
  · have : d - 1 = 0 := by
      rw [Nat.pow_zero] at h1; omega
    unfold mb; rw [this, bl_zero]
  · by_cases he : e = 0
    · subst he
      rw [Nat.pow_zero] at h1
      have : d - 1 = 0 := by omega
      unfold mb; rw [this, bl_zero]
    · obtain ⟨k, rfl⟩ : ∃ k, e = k + 1 := ⟨e - 1, by omega⟩
      rw [Nat.add_sub_cancel] at h2
      unfold mb
      exact bl_of (by omega) (by omega)
theorem ans_even_one (a b : Nat) : ans [a, b] 0 1 = (0, 0, 0) := ans_hit (p := 0) (by decide) (Nat.zero_le _) (tries_one (Nat.zero_le _))
theorem ans_even_hit {a e d x : Nat} (hd : 1 < d) (h64 : d ≤ 18446744073709551616) (hm : mb d = e) (hx : x < 2 ^ e) (l : x < d) : ans [hup a e + x, hup a e] 0 d = (x, 1, 0) := by
  have f : att [hup a e + x, hup a e] 1 e 0 = x := by rw [att_one (by simp)]; exact hup_mod a e x hx
  refine ans_hit (p := 0) (by omega) (Nat.zero_le _) ?_
  rw [mw_small hd h64, hm, tries_hit (by simp) (by rw [f]; exact l), f]
theorem ans_even_next {a e d x : Nat} (hd : 1 < d) (h64 : d ≤ 18446744073709551616) (hm : mb d = e) (hx : x < 2 ^ e) (l : ¬ x < d) : ans [hup a e + x, hup a e] 0 d = (0, 2, 0) := by
  have f : att [hup a e + x, hup a e] 1 e 0 = x := by rw [att_one (by simp)]; exact hup_mod a e x hx
  have f2 : att [hup a e + x, hup a e] 1 e 1 = 0 := by
    rw [att_one (by simp)]
    have := hup_mod a e 0 (Nat.two_pow_pos e)
    rwa [Nat.add_zero] at this
  refine ans_hit (p := 0) (by omega) (Nat.zero_le _) ?_
  rw [mw_small hd h64, hm, tries_next (by simp) (by rw [f]; exact l) (by decide), tries_hit (by simp) (by rw [f2]; omega), f2]
end Go.Proofs.Ythhphbaimpcjfaa
