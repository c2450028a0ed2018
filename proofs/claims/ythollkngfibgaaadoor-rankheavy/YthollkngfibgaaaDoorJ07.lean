/- The walk of the document's Same, of fractions. Plain arithmetic: halves of limbs, of 16 bits each. The document's answers: halves in memory; the walks of Half, Whole. Plain arithmetic: twice a number and a bit, half a number; limbs by their length. The document's answers: the walks of twice, half, even. The document's answers: the walks of Add, Sub. -/
import Derived.Test.YthollkngfibgaaaDoorJ06
import Derived.Test.YthollkngfibgaaaDoorJ00
import Derived.Test.YthollkngfibgaaaDoorJ05
import Derived.Test.YthollkngfibgaaaDoorJ02
import Derived.Test.YthollkngfibgaaaDoorJ03
namespace Go.Proofs.YthollkngfibgaaaDoor
open Go.RowKit
set_option linter.unusedVariables false
set_option linter.unusedSimpArgs false

set_option maxHeartbeats 1000000 in
set_option maxRecDepth 100000 in
theorem same3_any {A A' D D' : Option Addr} {n c n' c' m k m' k' : Nat} {xs ys us vs : List Nat} {w : World} (ha : Lim w A n c xs) (ha' : Lim w A' n' c' ys) (hb : Lim w D m k us) (hb' : Lim w D' m' k' vs) : Calls Tryd.prog 16 #[.agg #[.slice A n c, .slice A' n' c'], .agg #[.slice D m k, .slice D' m' k']] w fun e w' => e = .returned (.bool (sameB xs us && sameB ys vs)) ∧ Below w.heap.size w w' := by
  have S := (((((Fs.start w).put ha).put ha').put hb).put hb').box (.slice A n c) (.slice A' n' c') |>.box (.slice D m k) (.slice D' m' k')
  simp only [World.size_alloc] at S
  clear ha ha' hb hb'
  go_enter Tryd.func16, Tryd.ntmps16
  go_wp2_with fail
  generalize (w.alloc (.cells #[.slice A n c, .slice A' n' c'] 30)).alloc (.cells #[.slice D m k, .slice D' m' k'] 30) = w0 at *
  refine (same_bel S.lie.2.2.2.1 S.lie.2.1).mono ?_
  rintro e w1 ⟨rfl, B1⟩
  have S := S.next B1
  clear B1
  obtain ⟨⟨b0, b1, -⟩, ⟨a0, a1, -⟩, -⟩ := S.cel
  by_cases q : sameB xs us = true
  · rw [q]
    go_wp2_with fail
    refine (same_bel S.lie.2.2.1 S.lie.1).mono ?_
    rintro e w2 ⟨rfl, B1⟩
    have S := S.next B1
    clear B1 a0 a1 b0 b1
    have Q := Lib.hid q
    clear q
    go_wp2_with fail
    go_ret
    exact ⟨by rw [Q.out, Bool.true_and]; rfl, S.bl⟩
  · have q : sameB xs us = false := by simpa using q
    rw [q]
    have Q := Lib.hid q
    clear q
    go_wp2_with fail
    go_ret
    exact ⟨by rw [Q.out, Bool.false_and]; rfl, S.bl⟩
theorem same3_yes {A A' D D' : Option Addr} {n c n' c' m k m' k' : Nat} {xs ys : List Nat} {w : World} (ha : Lim w A n c xs) (ha' : Lim w A' n' c' ys) (hb : Lim w D m k xs) (hb' : Lim w D' m' k' ys) : Calls Tryd.prog 16 #[.agg #[.slice A n c, .slice A' n' c'], .agg #[.slice D m k, .slice D' m' k']] w fun e w' => e = .returned (.bool true) ∧ Below w.heap.size w w' := by
  have K := same3_any ha ha' hb hb'
  rw [sameB_yes, sameB_yes] at K
  exact K

end Go.Proofs.YthollkngfibgaaaDoor
namespace Go.Proofs.YthollkngfibgaaaDoor
/-- One more than the greatest half. -/
@[irreducible] def H16 : Nat := 65536
theorem H16_eq : H16 = 65536 := by unfold H16; rfl
theorem H16_pos : 0 < H16 := by rw [H16_eq]; decide
theorem H16_sq : H16 ^ 2 = B := by rw [H16_eq, B_eq]
theorem H16_pow (k : Nat) : H16 ^ (2 * k) = B ^ k := by rw [Nat.pow_mul, H16_sq]
/-- The number of halves, the lowest first. -/
def hval : List Nat → Nat
  | [] => 0
  | x :: r => x + H16 * hval r
theorem hval_nil : hval [] = 0 := rfl
theorem hval_cons (x : Nat) (r : List Nat) : hval (x :: r) = x + H16 * hval r := rfl
/-- Halves are below H16. -/
def Ld (xs : List Nat) : Prop := ∀ x ∈ xs, x < 65536
theorem Ld.nil : Ld [] := fun x hx => by cases hx
theorem Ld.cons {x : Nat} {r : List Nat} (h : x < 65536) (k : Ld r) : Ld (x :: r) := fun y hy => by
  rcases List.mem_cons.1 hy with rfl | hy
  · exact h
  · exact k y hy
theorem Ld.append {xs ys : List Nat} (h : Ld xs) (k : Ld ys) : Ld (xs ++ ys) := fun y hy => by
  rcases List.mem_append.1 hy with hy | hy
  · exact h y hy
  · exact k y hy
theorem Ld.at_ {xs : List Nat} (h : Ld xs) (k : Nat) (hk : k < xs.length) : xs[k] < 65536 := h _ (List.getElem_mem hk)
theorem Ld.head {x : Nat} {r : List Nat} (h : Ld (x :: r)) : x < 65536 := h x (by simp)
theorem Ld.tail {x : Nat} {r : List Nat} (h : Ld (x :: r)) : Ld r := fun y hy => h y (by simp [hy])
theorem Ld.drop {xs : List Nat} (h : Ld xs) (k : Nat) : Ld (xs.drop k) := fun y hy => h y (List.mem_of_mem_drop hy)
theorem ld_zeros (n : Nat) : Ld (List.replicate n 0) := fun y hy => by rw [(List.mem_replicate.1 hy).2]; decide
theorem ld_set {xs : List Nat} (h : Ld xs) (i v : Nat) (hv : v < 65536) : Ld (xs.set i v) := fun y hy => by
  rcases List.mem_or_eq_of_mem_set hy with k | k
  · exact h y k
  · rw [k]; exact hv
theorem hval_append (xs ys : List Nat) : hval (xs ++ ys) = hval xs + H16 ^ xs.length * hval ys := by
  induction xs with
  | nil => simp [hval_nil]
  | cons x r ih => rw [List.cons_append, hval_cons, hval_cons, ih, List.length_cons, Nat.pow_succ, Nat.mul_add, Nat.add_assoc, Nat.mul_comm (H16 ^ r.length) H16, Nat.mul_assoc]
theorem hval_snoc (xs : List Nat) (y : Nat) : hval (xs ++ [y]) = hval xs + H16 ^ xs.length * y := by
  rw [hval_append]; simp [hval_cons, hval_nil]
theorem hval_take_succ (xs : List Nat) (k : Nat) (h : k < xs.length) : hval (xs.take (k + 1)) = hval (xs.take k) + H16 ^ k * xs[k] := by
  rw [List.take_succ_eq_append_getElem h, hval_snoc, List.length_take, Nat.min_eq_left (by omega)]
theorem hval_zeros (n : Nat) : hval (List.replicate n 0) = 0 := by
  induction n with
  | zero => rfl
  | succ n ih => rw [List.replicate_succ, hval_cons, ih, Nat.mul_zero]
theorem hval_lt {xs : List Nat} (h : Ld xs) : hval xs < H16 ^ xs.length := by
  induction xs with
  | nil => simp [hval_nil]
  | cons x r ih =>
    have i := ih h.tail
    have e : H16 ^ (x :: r).length = H16 * H16 ^ r.length := by rw [List.length_cons, Nat.pow_succ, Nat.mul_comm]
    have hx := h.head
    rw [← H16_eq] at hx
    rw [hval_cons, e]
    have : H16 * (hval r + 1) ≤ H16 * H16 ^ r.length := Nat.mul_le_mul_left _ i
    rw [Nat.mul_add] at this
    omega
theorem hval_set (ps : List Nat) (k v : Nat) (h : k < ps.length) : hval (ps.set k v) + H16 ^ k * ps[k] = hval ps + H16 ^ k * v := by
  induction ps generalizing k with
  | nil => simp at h
  | cons x r ih =>
    cases k with
    | zero => simp [hval_cons]; omega
    | succ k =>
      have := ih k (by simpa using h)
      simp only [List.set_cons_succ, hval_cons, List.getElem_cons_succ, Nat.pow_succ]
      have e : H16 * (hval (r.set k v) + H16 ^ k * r[k]'(by simpa using h)) = H16 * (hval r + H16 ^ k * v) := by rw [this]
      rw [Nat.mul_add, Nat.mul_add, ← Nat.mul_assoc, ← Nat.mul_assoc, Nat.mul_comm H16 (H16 ^ k)] at e
      omega

/-- The limb that is there, or nought. -/
def lat (xs : List Nat) (k : Nat) : Nat := xs[k]?.getD 0
theorem lat_in {xs : List Nat} {k : Nat} (h : k < xs.length) : lat xs k = xs[k] := by unfold lat; rw [List.getElem?_eq_getElem h]; rfl
theorem lat_out {xs : List Nat} {k : Nat} (h : ¬ k < xs.length) : lat xs k = 0 := by unfold lat; rw [List.getElem?_eq_none (by omega)]; rfl
theorem lat_lt {xs : List Nat} (h : Lo xs) (k : Nat) : lat xs k < 4294967296 := by
  by_cases hk : k < xs.length
  · rw [lat_in hk]; exact h.at_ k hk
  · rw [lat_out hk]; decide
theorem val_take_lat (xs : List Nat) (k : Nat) : val (xs.take (k + 1)) = val (xs.take k) + B ^ k * lat xs k := by
  by_cases hk : k < xs.length
  · rw [lat_in hk]; exact val_take_succ xs k hk
  · rw [lat_out hk, List.take_of_length_le (by omega), List.take_of_length_le (by omega), Nat.mul_zero, Nat.add_zero]
/-- Half i. -/
def hf (xs : List Nat) (i : Nat) : Nat := if i % 2 = 0 then lat xs (i / 2) % 65536 else lat xs (i / 2) / 65536
theorem hf_even (xs : List Nat) (i : Nat) (h : i % 2 = 0) : hf xs i = lat xs (i / 2) % 65536 := by unfold hf; rw [if_pos h]
theorem hf_odd (xs : List Nat) (i : Nat) (h : ¬ i % 2 = 0) : hf xs i = lat xs (i / 2) / 65536 := by unfold hf; rw [if_neg h]
theorem hf_lt {xs : List Nat} (h : Lo xs) (i : Nat) : hf xs i < 65536 := by
  have := lat_lt h (i / 2)
  unfold hf
  split <;> omega
/-- So many halves. -/
def halves (xs : List Nat) : Nat → List Nat
  | 0 => []
  | n + 1 => halves xs n ++ [hf xs n]
theorem halves_succ (xs : List Nat) (n : Nat) : halves xs (n + 1) = halves xs n ++ [hf xs n] := rfl
theorem halves_len (xs : List Nat) (n : Nat) : (halves xs n).length = n := by
  induction n with
  | zero => rfl
  | succ n ih => rw [halves_succ, List.length_append, ih]; rfl
theorem ld_halves {xs : List Nat} (h : Lo xs) (n : Nat) : Ld (halves xs n) := by
  induction n with
  | zero => exact .nil
  | succ n ih => exact ih.append (.cons (hf_lt h n) .nil)
theorem two_halves (P x : Nat) : P * (x % 65536) + P * 65536 * (x / 65536) = P * x := by
  have e : x = x % 65536 + 65536 * (x / 65536) := by omega
  conv => rhs; rw [e, Nat.mul_add, ← Nat.mul_assoc]
theorem halves_val (xs : List Nat) (k : Nat) : hval (halves xs (2 * k)) = val (xs.take k) := by
  induction k with
  | zero => rfl
  | succ k ih =>
    have e : 2 * (k + 1) = 2 * k + 1 + 1 := by omega
    rw [e, halves_succ, halves_succ, hval_snoc, hval_snoc, ih, List.length_append, halves_len, List.length_singleton, hf_even _ _ (by omega), hf_odd _ _ (by omega), show 2 * k / 2 = k by omega, show (2 * k + 1) / 2 = k by omega, val_take_lat, Nat.pow_succ, H16_pow, H16_eq, Nat.add_assoc, two_halves]
theorem halves_whole {xs : List Nat} {k : Nat} (h : xs.length ≤ k) : hval (halves xs (2 * k)) = val xs := by rw [halves_val, List.take_of_length_le h]
/-- Two halves are a limb. -/
theorem hval_two (hs : List Nat) (k : Nat) (h : 2 * k + 1 < hs.length) : hval (hs.take (2 * (k + 1))) = hval (hs.take (2 * k)) + B ^ k * (hs[2 * k] + 65536 * hs[2 * k + 1]) := by
  have e : 2 * (k + 1) = 2 * k + 1 + 1 := by omega
  rw [e, hval_take_succ hs (2 * k + 1) h, hval_take_succ hs (2 * k) (by omega), Nat.pow_succ, H16_pow, H16_eq, Nat.mul_add, Nat.mul_assoc, Nat.add_assoc]
/-- A step of a sum. -/
theorem had_step {P s x y k v c : Nat} (h : v + P * k = s) (e : x + y + k = c) : v + P * (c % 65536) + P * 65536 * (c / 65536) = s + P * x + P * y := by
  have := two_halves P c
  rw [Nat.add_assoc, this, ← e, ← h, Nat.mul_add, Nat.mul_add]
  omega
theorem hsb_limb (x y k : Nat) (hx : x < 65536) (hy : y < 65536) (hk : k ≤ 1) : x + 65536 * (1 - (65536 + x - y - k) / 65536) = (65536 + x - y - k) % 65536 + y + k := by
  omega
theorem hsb_step {P s t v x y k b d : Nat} (h : s + P * k = v + t) (e : x + 65536 * b = d + y + k) : s + P * x + P * 65536 * b = v + P * d + (t + P * y) := by
  have : P * x + P * 65536 * b = P * d + P * y + P * k := by
    rw [Nat.mul_assoc, ← Nat.mul_add, e, Nat.mul_add, Nat.mul_add]
  omega
theorem hpr_step {P V S p x y k T v : Nat} (h : V + P * k = S) (e : v + P * p = V + P * (T % 65536)) (ht : T = p + x * y + k) : v + P * 65536 * (T / 65536) = S + P * (x * y) := by
  have e3 := two_halves P T
  have e4 : P * T = P * p + P * (x * y) + P * k := by rw [ht, Nat.mul_add, Nat.mul_add]
  omega
end Go.Proofs.YthollkngfibgaaaDoor
namespace Go.Proofs.YthollkngfibgaaaDoor
open Go.RowKit
set_option linter.unusedVariables false
set_option linter.unusedSimpArgs false

/-- A half. -/
abbrev hv (x : Nat) : Value := .int .u64 (x : Int)
theorem info_u64 : (Tryd.prog.info? 22).map (fun i => (i.zero, i.size, i.bytes)) = some (some (.int .u64 0), 1, 8) := by kernel_rfl
/-- Block g begins with these halves. -/
structure Hrow (w : World) (g : Nat) (hs : List Nat) (ys : List Value) : Prop where
  blk : w.heap[g]? = some (.cells (hs.map hv ++ ys).toArray 22 (0, 0))
section
variable {w w' : World} {g : Nat} {hs : List Nat} {ys : List Value}
theorem Hrow.lt (h : Hrow w g hs ys) : g < w.heap.size := (Array.getElem?_eq_some_iff.1 h.blk).1
theorem Hrow.cell (h : Hrow w g hs ys) (i : Nat) (hi : i < hs.length) : w.cell? ⟨g, i, none⟩ = some (hv hs[i]) := by
  have := h.blk
  simp [World.cell?, this, List.getElem?_append_left, hi]
theorem Hrow.cell' (h : Hrow w g hs ys) {i x : Nat} (hi : hs[i]? = some x) : w.cell? ⟨g, i, none⟩ = some (hv x) := by
  obtain ⟨a, b⟩ := List.getElem?_eq_some_iff.1 hi
  rw [h.cell i a, b]
theorem Hrow.melt (h : Hrow w g hs ys) (i : Nat) : w.frozen? ⟨g, i, none⟩ = false := by
  have := h.blk
  simp [World.frozen?, this]
theorem Hrow.set_ (h : Hrow w g hs ys) (i : Nat) (hi : i < hs.length) (v : Nat) : Hrow (w.setCell ⟨g, i, none⟩ (hv v)) g (hs.set i v) ys := by
  refine ⟨?_⟩
  have := h.blk
  simp [World.setCell, Array.getElem?_modify, this]
  rw [List.set_append_left _ _ (by simpa using hi)]
theorem Hrow.drew (h : Hrow w g hs ys) : Hrow w.drew g hs ys := ⟨h.blk⟩
theorem Hrow.next (h : Hrow w g hs ys) (hb : Below w.heap.size w w') : Hrow w' g hs ys := ⟨(hb.block g h.lt).trans h.blk⟩
theorem Hrow.turn (h : Hrow w g hs ys) {g' : Nat} (t : Turn w w' g') (hne : g ≠ g') : Hrow w' g hs ys := ⟨(t.block _ hne).trans h.blk⟩
end
/-- The slice at A of length n reads as the halves hs. -/
structure Hl (w : World) (A : Option Addr) (n : Nat) (hs : List Nat) : Prop where
  len : hs.length = n
  at_ : ∀ j (h : j < hs.length), ∃ ad, A = some ad ∧ w.cell? (ad.add j) = some (hv hs[j])
theorem Hrow.hl {w : World} {g n : Nat} {hs : List Nat} {ys : List Value} (h : Hrow w g hs ys) (hn : hs.length = n) : Hl w (some ⟨g, 0, none⟩) n hs :=
  ⟨hn, fun j hj => ⟨_, rfl, by rw [add_lit, Nat.zero_add]; exact h.cell j hj⟩⟩
theorem own_hrow {w : World} {base n : Nat} {v : Value} {hs : List Nat} (h : w.ownsRow base 22 1 v n (hs.map hv)) (hn : 0 < n) : ∃ g c ys, v = .slice (some ⟨g, 0, none⟩) n c ∧ base ≤ g ∧ n ≤ c ∧ c ≤ maxLen ∧ hs.length = n ∧ Hrow w g hs ys := by
  have hl : hs.length = n := by have := h.1; simpa using this
  rcases h.2 with ⟨rfl, rfl⟩ | ⟨g, cap, cur, rfl, h0, hb, h1, h2, h3, h4⟩
  · omega
  · refine ⟨g, cap, cur.toList.drop n, rfl, h0, h1, h2, hl, ⟨?_⟩⟩
    rw [hb]
    have : cur = (hs.map hv ++ cur.toList.drop n).toArray := by
      apply Array.ext'
      rw [Nat.mul_one] at h4
      rw [← h4]
      simp
    rw [← this]
theorem own_base {w : World} {base n : Nat} {e : TypeId} {v : Value} {xs : List Value} (h : w.ownsRow base e 1 v n xs) : ∀ k, v.ownBlock = some k → base ≤ k := by
  intro k hk
  rcases h.2 with ⟨rfl, _⟩ | ⟨g, cap, cur, rfl, h0, _⟩
  · simp [Value.ownBlock] at hk
  · simp [Value.ownBlock] at hk
    omega

/-- What is in the loop of Half. -/
structure Hlf (w : World) (xs : List Nat) (i : Nat) (v : Value) (wr : World) : Prop where
  own : wr.ownsRow w.heap.size 22 1 v i ((halves xs i).map hv)
  bl : Below w.heap.size w wr
theorem Hlf.step {w : World} {xs : List Nat} {i : Nat} {v v2 : Value} {wr w2 : World} {o : Obj} (h : Hlf w xs i v wr) (hown : w2.ownsRow w.heap.size 22 1 v2 (i + 1) ((halves xs i).map hv ++ [hv (hf xs i)])) (hg : (wr.alloc o).grownBy w2 v.ownBlock) : Hlf w xs (i + 1) v2 w2 := by
  refine ⟨?_, ?_⟩
  · rw [halves_succ]; simpa using hown
  · exact (h.bl.alloc h.bl.size o).grown hg (by have := h.bl.size; simp; omega) (own_base h.own)
/-- What Half leaves. -/
def RetH (w : World) (xs : List Nat) (n : Nat) (e : Ending) (w' : World) : Prop := ∃ v, e = .returned v ∧ w'.ownsRow w.heap.size 22 1 v n ((halves xs n).map hv) ∧ Below w.heap.size w w'
theorem half_cast (i : Nat) : (i : Int).tdiv 2 = ((i / 2 : Nat) : Int) := (Int.ofNat_tdiv i 2).symm
theorem rem_cast (i : Nat) : (i : Int).tmod 2 = ((i % 2 : Nat) : Int) := (Int.ofNat_tmod i 2).symm

set_option maxHeartbeats 2000000 in
set_option maxRecDepth 100000 in
theorem half_any {A : Option Addr} {m c n : Nat} {xs : List Nat} {w : World} (h : Lim w A m c xs) (hn : n ≤ 1000000) : Calls Tryd.prog 71 #[.slice A m c, .int .i64 (n : Int)] w fun e w' => RetH w xs n e w' := by
  have S0 : Hlf w xs 0 (.slice none 0 0) w := ⟨World.ownsRow_nil w _ _ _, Below.refl _ _⟩
  obtain ⟨i0, hi, hz0, hz1, hz2⟩ := info_parts info_u64
  have HI := Lib.hid hi; have HZ0 := Lib.hid hz0; have HZ1 := Lib.hid hz1; have HZ2 := Lib.hid hz2
  have H := Lib.hid h
  have HL := Lib.hid h.len
  clear h hi hz0 hz1 hz2
  go_enter Tryd.func71, Tryd.ntmps71
  go_wp2_with fail
  go_loopg [5, 6] n (fun q s5 s6 wr => ∃ i : Nat, i + q = n ∧ s6 = .int .i64 (i : Int) ∧ Hlf w xs i s5 wr)
  case atStart => exact ⟨0, by omega, rfl, S0⟩
  case round =>
    clear S0
    obtain ⟨i, hq, rfl, S⟩ := hrel
    have HQ := Lib.hid hq
    by_cases lt : i < n
    · have il : (i : Int) < n := by omega
      have SH := Lib.hid S
      have hb2 : w.heap.size ≤ wr.heap.size := S.bl.size
      have E1 := half_cast i
      have E2 := rem_cast i
      clear hq S
      by_cases hin : i / 2 < m
      · have hin' : ((i / 2 : Nat) : Int) < m := by omega
        have h00 : (0 : Int) ≤ ((i / 2 : Nat) : Int) := by omega
        have hx : i / 2 < xs.length := by rw [HL.out]; exact hin
        obtain ⟨ad, rfl, c1⟩ := (H.out.next SH.out.bl).at_ (i / 2) hx
        have EL := Lib.hid (lat_in hx)
        have bx := H.out.lo.at_ _ hx
        generalize xs[i / 2] = x at *
        by_cases ev : i % 2 = 0
        · have E3 : Hid (hv (hf xs i) = Value.int IntKind.u64 ((x : Int) % 65536)) := by
            unfold Hid; rw [hf_even _ _ ev, EL.out]; exact congrArg (Value.int .u64) (by omega)
          rw [ev] at E2
          go_wp2_with (at_builtin; refine wpList_append_own _ rfl _ _ 57 rfl w.heap.size 22 i0 (.int .u64 0) 1 8 Tryd.underlying57 HI.out HZ0.out HZ1.out HZ2.out rfl (by decide) _ i ((halves xs i).map hv) rfl (SH.out.own.alloc _) ⟨wr.heap.size, 0, none⟩ 1 1 [hv (hf xs i)] rfl rfl ?qc2 ?qc3 ?qc4 ?qc5 ?qc6 ?_)
          case qc2 => (rw [E3.out]; first | exact cell_one_new wr _ _ | exact fun _ _ h => h)
          case qc3 => first | (intro u hu; rw [List.mem_singleton] at hu; rw [hu]; rfl) | rfl
          case qc4 => unfold maxLen; omega
          case qc5 => omega
          case qc6 => first | omega | (simp; omega)
          intro v2 w2 hown hg _
          have STh := Lib.hid (SH.out.step (v2 := v2) (w2 := w2) hown hg)
          clear hown hg SH
          go_wp2_with fail
          go_roundg (gk - 1)
          case measure => have := HQ.out; omega
          case rel =>
            go_light
            exact ⟨i + 1, by have := HQ.out; omega, by go_num, STh.out⟩
        · have E3 : Hid (hv (hf xs i) = Value.int IntKind.u64 ((x : Int) / 65536)) := by
            unfold Hid; rw [hf_odd _ _ ev, EL.out]; exact congrArg (Value.int .u64) (by omega)
          rw [show i % 2 = 1 by omega] at E2
          go_wp2_with (at_builtin; refine wpList_append_own _ rfl _ _ 57 rfl w.heap.size 22 i0 (.int .u64 0) 1 8 Tryd.underlying57 HI.out HZ0.out HZ1.out HZ2.out rfl (by decide) _ i ((halves xs i).map hv) rfl (SH.out.own.alloc _) ⟨wr.heap.size, 0, none⟩ 1 1 [hv (hf xs i)] rfl rfl ?qc2 ?qc3 ?qc4 ?qc5 ?qc6 ?_)
          case qc2 => (rw [E3.out]; first | exact cell_one_new wr _ _ | exact fun _ _ h => h)
          case qc3 => first | (intro u hu; rw [List.mem_singleton] at hu; rw [hu]; rfl) | rfl
          case qc4 => unfold maxLen; omega
          case qc5 => omega
          case qc6 => first | omega | (simp; omega)
          intro v2 w2 hown hg _
          have STh := Lib.hid (SH.out.step (v2 := v2) (w2 := w2) hown hg)
          clear hown hg SH
          go_wp2_with fail
          go_roundg (gk - 1)
          case measure => have := HQ.out; omega
          case rel =>
            go_light
            exact ⟨i + 1, by have := HQ.out; omega, by go_num, STh.out⟩
      · have hin' : ¬ ((i / 2 : Nat) : Int) < m := by omega
        have hx : ¬ i / 2 < xs.length := by rw [HL.out]; exact hin
        have EL := Lib.hid (lat_out hx)
        by_cases ev : i % 2 = 0
        · have E3 : Hid (hv (hf xs i) = Value.int IntKind.u64 0) := by
            unfold Hid; rw [hf_even _ _ ev, EL.out]; rfl
          rw [ev] at E2
          go_wp2_with (at_builtin; refine wpList_append_own _ rfl _ _ 57 rfl w.heap.size 22 i0 (.int .u64 0) 1 8 Tryd.underlying57 HI.out HZ0.out HZ1.out HZ2.out rfl (by decide) _ i ((halves xs i).map hv) rfl (SH.out.own.alloc _) ⟨wr.heap.size, 0, none⟩ 1 1 [hv (hf xs i)] rfl rfl ?qc2 ?qc3 ?qc4 ?qc5 ?qc6 ?_)
          case qc2 => (rw [E3.out]; first | exact cell_one_new wr _ _ | exact fun _ _ h => h)
          case qc3 => first | (intro u hu; rw [List.mem_singleton] at hu; rw [hu]; rfl) | rfl
          case qc4 => unfold maxLen; omega
          case qc5 => omega
          case qc6 => first | omega | (simp; omega)
          intro v2 w2 hown hg _
          have STh := Lib.hid (SH.out.step (v2 := v2) (w2 := w2) hown hg)
          clear hown hg SH
          go_wp2_with fail
          go_roundg (gk - 1)
          case measure => have := HQ.out; omega
          case rel =>
            go_light
            exact ⟨i + 1, by have := HQ.out; omega, by go_num, STh.out⟩
        · have E3 : Hid (hv (hf xs i) = Value.int IntKind.u64 0) := by
            unfold Hid; rw [hf_odd _ _ ev, EL.out]; rfl
          rw [show i % 2 = 1 by omega] at E2
          go_wp2_with (at_builtin; refine wpList_append_own _ rfl _ _ 57 rfl w.heap.size 22 i0 (.int .u64 0) 1 8 Tryd.underlying57 HI.out HZ0.out HZ1.out HZ2.out rfl (by decide) _ i ((halves xs i).map hv) rfl (SH.out.own.alloc _) ⟨wr.heap.size, 0, none⟩ 1 1 [hv (hf xs i)] rfl rfl ?qc2 ?qc3 ?qc4 ?qc5 ?qc6 ?_)
          case qc2 => (rw [E3.out]; first | exact cell_one_new wr _ _ | exact fun _ _ h => h)
          case qc3 => first | (intro u hu; rw [List.mem_singleton] at hu; rw [hu]; rfl) | rfl
          case qc4 => unfold maxLen; omega
          case qc5 => omega
          case qc6 => first | omega | (simp; omega)
          intro v2 w2 hown hg _
          have STh := Lib.hid (SH.out.step (v2 := v2) (w2 := w2) hown hg)
          clear hown hg SH
          go_wp2_with fail
          go_roundg (gk - 1)
          case measure => have := HQ.out; omega
          case rel =>
            go_light
            exact ⟨i + 1, by have := HQ.out; omega, by go_num, STh.out⟩
    · obtain rfl : n = i := by omega
      have il : ¬ (n : Int) < n := by omega
      have S := Lib.hid S
      clear hq lt
      go_wp2_with fail
      go_ret
      exact ⟨_, rfl, S.out.own, S.out.bl⟩

/-- What is in the first loop of Whole. -/
structure Whl (w : World) (hs : List Nat) (k : Nat) (v : Value) (wr : World) : Prop where
  ps : ∃ ps, ps.length = k ∧ Lo ps ∧ val ps = hval (hs.take (2 * k)) ∧ wr.ownsRow w.heap.size 49 1 v k (ps.map lv)
  bl : Below w.heap.size w wr
theorem Whl.step {w : World} {hs : List Nat} {k : Nat} {v v2 : Value} {wr w2 : World} {o : Obj} {ps : List Nat} (pl : ps.length = k) (plo : Lo ps) (pv : val ps = hval (hs.take (2 * k))) (po : wr.ownsRow w.heap.size 49 1 v k (ps.map lv)) (bl : Below w.heap.size w wr)
    (ld : Ld hs) (hk : 2 * k + 1 < hs.length) (hown : w2.ownsRow w.heap.size 49 1 v2 (k + 1) (ps.map lv ++ [lv (hs[2 * k] + 65536 * hs[2 * k + 1])])) (hg : (wr.alloc o).grownBy w2 v.ownBlock) : Whl w hs (k + 1) v2 w2 := by
  have b1 := ld.at_ (2 * k) (by omega)
  have b2 := ld.at_ (2 * k + 1) hk
  refine ⟨⟨ps ++ [hs[2 * k] + 65536 * hs[2 * k + 1]], by simp [pl], plo.append (.cons (by omega) .nil), ?_, by simpa using hown⟩, ?_⟩
  · rw [val_snoc, pl, pv, hval_two hs k hk]
  · exact (bl.alloc bl.size o).grown hg (by have := bl.size; simp; omega) (own_base po)

set_option maxHeartbeats 2000000 in
set_option maxRecDepth 100000 in
theorem whole_any {A : Option Addr} {n c : Nat} {hs : List Nat} {w : World} (h : Hl w A (2 * n) hs) (ld : Ld hs) (hn : n ≤ 1000000) : Calls Tryd.prog 29 #[.slice A (2 * n) c] w fun e w' => RetN (hval hs) w e w' := by
  have S0 : Whl w hs 0 (.slice none 0 0) w := ⟨⟨[], rfl, .nil, rfl, World.ownsRow_nil w _ _ _⟩, Below.refl _ _⟩
  obtain ⟨i0, hi, hz0, hz1, hz2⟩ := info_parts info_u32
  have HI := Lib.hid hi; have HZ0 := Lib.hid hz0; have HZ1 := Lib.hid hz1; have HZ2 := Lib.hid hz2
  have H := Lib.hid h; have LD := Lib.hid ld
  have HL := Lib.hid h.len
  clear h hi hz0 hz1 hz2 ld
  generalize hN : 2 * n = N at *
  have HN := Lib.hid hN
  have hN2 : N ≤ 2000000 := by omega
  clear hN
  go_enter Tryd.func29, Tryd.ntmps29
  go_wp2_with fail
  go_loopg [3, 4] n (fun q s3 s4 wr => ∃ i k : Nat, k + q = n ∧ s4 = .int .i64 (i : Int) ∧ Hid (i = 2 * k) ∧ Whl w hs k s3 wr)
  case atStart => exact ⟨0, 0, by omega, rfl, rfl, S0⟩
  case round =>
    clear S0
    obtain ⟨i, k, hq, rfl, ei, S⟩ := hrel
    have HQ := Lib.hid hq
    by_cases lt : k < n
    · have i1 : i + 1 < N := by have := HN.out; have := ei.out; omega
      have i1l : i + 1 < hs.length := by rw [HL.out]; exact i1
      have il : (i : Int) < N := by omega
      have il1 : (i : Int) + 1 < N := by omega
      have il0 : (0 : Int) ≤ i := by omega
      have il2 : (0 : Int) ≤ (i : Int) + 1 := by omega
      obtain ⟨ps, pl, plo, pv, po⟩ := S.ps
      have c1 : ∃ ad x, A = some ad ∧ x < 65536 ∧ hs[i]? = some x ∧ wr.cell? (ad.add i) = some (.int .u64 (x : Int)) := by
        obtain ⟨ad, e, hc⟩ := H.out.at_ i (by omega)
        exact ⟨ad, _, e, LD.out.at_ i (by omega), List.getElem?_eq_getElem _, keep_cell S.bl hc⟩
      obtain ⟨ad, x, rfl, bx, ex, c1⟩ := c1
      have c2 : ∃ y, y < 65536 ∧ hs[i + 1]? = some y ∧ wr.cell? ⟨ad.block, ad.off + (i + 1), none⟩ = some (.int .u64 (y : Int)) := by
        obtain ⟨ad, e, hc⟩ := H.out.at_ (i + 1) i1l
        injection e with e
        subst e
        have e1 : ad.add (i + 1) = ⟨ad.block, ad.off + (i + 1), none⟩ := by unfold Addr.add; rw [if_neg (by omega)]
        rw [e1] at hc
        exact ⟨_, LD.out.at_ (i + 1) i1l, List.getElem?_eq_getElem _, keep_cell S.bl hc⟩
      obtain ⟨y, bY, ey, c2⟩ := c2
      have hb2 : w.heap.size ≤ wr.heap.size := S.bl.size
      have KS : Hid (∀ (v2 : Value) (w2 : World) (o : Obj), w2.ownsRow w.heap.size 49 1 v2 (k + 1) (ps.map lv ++ [lv (x + 65536 * y)]) → (wr.alloc o).grownBy w2 (Value.ownBlock u3) → Whl w hs (k + 1) v2 w2) := by
        intro v2 w2 o h1 h2
        have e := ei.out
        subst e
        refine Whl.step pl plo pv po S.bl LD.out i1l ?_ h2
        rw [(List.getElem?_eq_some_iff.1 ex).2, (List.getElem?_eq_some_iff.1 ey).2]
        exact h1
      have PO := Lib.hid po
      have E3 : Hid (lv (x + 65536 * y) = Value.int IntKind.u32 ((x : Int) + 65536 * (y : Int))) := congrArg (Value.int .u32) (by omega)
      have EI : Hid (i + 2 = 2 * (k + 1)) := by unfold Hid; rw [ei.out]; omega
      clear hq S pl plo pv po ex ey ei
      go_wp2_with (at_builtin; refine wpList_append_own _ rfl _ _ 28 rfl w.heap.size 49 i0 (.int .u32 0) 1 4 Tryd.underlying28 HI.out HZ0.out HZ1.out HZ2.out rfl (by decide) _ k (ps.map lv) rfl (PO.out.alloc _) ⟨wr.heap.size, 0, none⟩ 1 1 [lv (x + 65536 * y)] rfl rfl ?qc2 ?qc3 ?qc4 ?qc5 ?qc6 ?_)
      case qc2 => (rw [E3.out]; first | exact cell_one_new wr _ _ | exact fun _ _ h => h)
      case qc3 => first | (intro u hu; rw [List.mem_singleton] at hu; rw [hu]; rfl) | rfl
      case qc4 => unfold maxLen; omega
      case qc5 => omega
      case qc6 => first | omega | (simp; omega)
      intro v2 w2 hown hg _
      have STh := Lib.hid (KS.out v2 w2 _ hown hg)
      clear hown hg
      go_wp2_with fail
      go_roundg (gk - 1)
      case measure => have := HQ.out; omega
      case rel =>
        go_light
        exact ⟨i + 2, k + 1, by have := HQ.out; omega, by go_num, EI, STh.out⟩
    · obtain rfl : n = k := by omega
      have eN : i = N := by rw [ei.out, HN.out]
      have il : ¬ (i : Int) < N := by omega
      obtain ⟨ps, pl, plo, pv, po⟩ := S.ps
      obtain ⟨A2, c2, rfl, L2⟩ := own_lim po plo
      rw [HN.out, List.take_of_length_le (by rw [HL.out]; exact Nat.le_refl _)] at pv
      have PV := Lib.hid pv; have L := Lib.hid L2; have BL := Lib.hid S.bl
      have hc := L2.cap; have ht := L2.top
      clear hq S pl plo pv po L2 HQ lt eN
      go_wp2_with fail
      go_loopg [3] n (fun g s3 wq => g ≤ n ∧ s3 = .slice A2 g c2 ∧ Hid (val (ps.take g) = val ps) ∧ wr = wq)
      case atStart => exact ⟨Nat.le_refl _, rfl, by unfold Hid; rw [List.take_of_length_le (by rw [L.out.len]; exact Nat.le_refl _)], rfl⟩
      case round =>
        obtain ⟨hg, rfl, hvv, rfl⟩ := hrel
        have HT := Lib.hid (L.out.take hg)
        by_cases hz : gk = 0
        · subst hz
          have HV : Hid (limbs (hval hs) = []) := by unfold Hid; rw [← PV.out, ← hvv.out]; simp [val_nil, limbs_zero]
          go_wp2_with fail
          go_ret
          exact ⟨_, 0, _, rfl, by rw [HV.out]; exact Lim.none_ _ _ _ (by omega), BL.out⟩
        · obtain ⟨k, rfl⟩ : ∃ k, gk = k + 1 := ⟨gk - 1, by omega⟩
          obtain ⟨ad, rfl⟩ := L.out.some_ (by omega)
          have hkx : k < ps.length := by rw [L.out.len]; omega
          have hcell := L.out.cell k hkx
          by_cases hx : ps[k] = 0
          · have HV : Hid (val (ps.take k) = val ps) := by
              unfold Hid; rw [← hvv.out, val_take_succ ps k hkx, hx, Nat.mul_zero, Nat.add_zero]
            rw [hx] at hcell
            clear hx hvv HT
            go_wp2_with fail
            go_roundg k
            case measure => omega
            case rel => exact ⟨by omega, rfl, HV, rfl⟩
          · have HV : Hid (limbs (hval hs) = ps.take (k + 1)) := by
              unfold Hid
              rw [← PV.out, ← hvv.out]
              refine limbs_val (L.out.lo.take _) (getLast_ne (x := ps[k]) ?_ hx)
              rw [List.length_take, Nat.min_eq_left (by omega), Nat.add_sub_cancel, List.getElem?_take, if_pos (by omega), List.getElem?_eq_getElem hkx]
            generalize ps[k] = x at *
            have h2 : ((x : Int) == 0) = false := by simpa using hx
            clear hx hvv
            go_wp2_with fail
            go_ret
            exact ⟨_, _, _, rfl, by rw [HV.out]; exact HT.out, BL.out⟩
end Go.Proofs.YthollkngfibgaaaDoor
namespace Go.Proofs.YthollkngfibgaaaDoor
/-- Limbs whose number needs them all are those of their number. -/
theorem limbs_full {zs : List Nat} (lo : Lo zs) (h : zs = [] ∨ B ^ (zs.length - 1) ≤ val zs) : limbs (val zs) = zs := by
  refine limbs_val lo fun hn z => ?_
  rcases h with h | h
  · exact hn h
  · have e := List.dropLast_concat_getLast hn
    rw [z] at e
    have l := val_lt (xs := zs.dropLast) (fun y hy => lo y (List.dropLast_subset _ hy))
    rw [← e, val_snoc, Nat.mul_zero, Nat.add_zero, List.length_append, List.length_dropLast, List.length_singleton, Nat.add_sub_cancel] at h
    rw [List.length_dropLast] at l
    omega
theorem or_bit (x k : Nat) (hk : k ≤ 1) : bits BinOp.or IntKind.u32 (((x * 2 % 4294967296 : Nat)) : Int) (k : Int) = ((x * 2 % 4294967296 + k : Nat) : Int) := by
  have e := or_low x k 1 (by decide) (by omega)
  rw [Nat.pow_one] at e
  rw [u32_or_nat _ _ (Nat.mod_lt _ (by decide)) (by omega), Nat.or_comm, e, Nat.add_comm]
theorem or_top (x y : Nat) (hx : x < 4294967296) : bits BinOp.or IntKind.u32 (((x / 2 : Nat)) : Int) (((y * 2147483648 % 4294967296 : Nat)) : Int) = ((x / 2 + y % 2 * 2147483648 : Nat) : Int) := by
  have e := or_low y (x / 2) 31 (by decide) (by omega)
  rw [show (2 : Nat) ^ 31 = 2147483648 from rfl] at e
  rw [u32_or_nat _ _ (by omega) (Nat.mod_lt _ (by decide)), e]
  exact congrArg Nat.cast (by omega)
/-- A step of twice. -/
theorem tw_step {P s v x k b : Nat} (h : v + P * k = 2 * s + b) : v + P * (x * 2 % 4294967296 + k) + P * 4294967296 * (x / 2147483648) = 2 * (s + P * x) + b := by
  have e : x * 2 % 4294967296 + 4294967296 * (x / 2147483648) = 2 * x := by omega
  have : P * (x * 2 % 4294967296) + P * 4294967296 * (x / 2147483648) = 2 * (P * x) := by
    rw [Nat.mul_assoc, ← Nat.mul_add, e, Nat.mul_left_comm]
  rw [Nat.mul_add, Nat.mul_add]
  omega
/-- A step of half. -/
theorem hf_step (x V : Nat) : (x + 4294967296 * V) / 2 = x / 2 + V % 2 * 2147483648 + 4294967296 * (V / 2) := by omega
theorem val_mod_two (xs : List Nat) : val xs % 2 = lat xs 0 % 2 := by
  cases xs with
  | nil => rfl
  | cons x r =>
    rw [val_cons, B_eq]
    show _ = x % 2
    omega
theorem bit_down (a p : Nat) : a / 2 ^ p = 2 * (a / 2 ^ (p + 1)) + a / 2 ^ p % 2 := by
  rw [Nat.pow_succ, ← Nat.div_div_eq_div_mul]; omega
/-- A step of a division, bit by bit. -/
theorem dv_step {b q r s k : Nat} (hs : s = b * q + r) (hr : r < b) : (b ≤ 2 * r + k → k ≤ 1 → (2 * s + k) / b = 2 * q + 1 ∧ (2 * s + k) % b = 2 * r + k - b) ∧ (¬ b ≤ 2 * r + k → (2 * s + k) / b = 2 * q + 0 ∧ (2 * s + k) % b = 2 * r + k) := by
  have hb : 0 < b := by omega
  constructor
  · intro h hk
    have e : 2 * s + k = (2 * r + k - b) + b * (2 * q + 1) := by
      rw [hs, Nat.mul_add, Nat.mul_add, Nat.mul_one, Nat.mul_left_comm]; omega
    rw [e, Nat.add_mul_div_left _ _ hb, Nat.add_mul_mod_self_left, Nat.div_eq_of_lt (by omega), Nat.mod_eq_of_lt (by omega)]
    exact ⟨by omega, rfl⟩
  · intro h
    have e : 2 * s + k = (2 * r + k) + b * (2 * q) := by
      rw [hs, Nat.mul_add, Nat.mul_left_comm]; omega
    rw [e, Nat.add_mul_div_left _ _ hb, Nat.add_mul_mod_self_left, Nat.div_eq_of_lt (by omega), Nat.mod_eq_of_lt (by omega)]
    exact ⟨by omega, rfl⟩
/-- Steps of gcd. -/
theorem gcd_both (a b : Nat) (ha : a % 2 = 0) (hb : b % 2 = 0) : Nat.gcd a b = 2 * Nat.gcd (a / 2) (b / 2) := by
  rw [← Nat.gcd_mul_left, show 2 * (a / 2) = a by omega, show 2 * (b / 2) = b by omega]
theorem gcd_left (a b : Nat) (ha : a % 2 = 0) (hb : b % 2 = 1) : Nat.gcd (a / 2) b = Nat.gcd a b := by
  have c : Nat.Coprime 2 b := by
    rw [Nat.coprime_iff_gcd_eq_one, Nat.gcd_rec, hb]; decide
  have := Nat.Coprime.gcd_mul_left_cancel (a / 2) c
  rw [show 2 * (a / 2) = a by omega] at this
  exact this.symm
theorem gcd_right (a b : Nat) (ha : a % 2 = 1) (hb : b % 2 = 0) : Nat.gcd a (b / 2) = Nat.gcd a b := by
  rw [Nat.gcd_comm a, Nat.gcd_comm a, gcd_left b a hb ha]
theorem gcd_less (a b : Nat) (h : b ≤ a) : Nat.gcd (a - b) b = Nat.gcd a b := Nat.gcd_sub_self_left h
end Go.Proofs.YthollkngfibgaaaDoor
namespace Go.Proofs.YthollkngfibgaaaDoor
open Go.RowKit
set_option linter.unusedVariables false
set_option linter.unusedSimpArgs false

/-- What is in the loop of twice. -/
structure Tw (w : World) (xs : List Nat) (b i k : Nat) (v : Value) (wr : World) : Prop where
  ps : ∃ ps, ps.length = i ∧ Lo ps ∧ val ps + B ^ i * k = 2 * val (xs.take i) + b ∧ wr.ownsRow w.heap.size 49 1 v i (ps.map lv)
  k1 : k ≤ 1
  bl : Below w.heap.size w wr
set_option maxHeartbeats 2000000 in
set_option maxRecDepth 100000 in
theorem twice_any {A : Option Addr} {n c a b : Nat} {w : World} (h : Lim w A n c (limbs a)) (hb : b ≤ 1) (hn : n ≤ 100000) : Calls Tryd.prog 52 #[.slice A n c, lv b] w fun e w' => RetN (2 * a + b) w e w' := by
  have S0 : Tw w (limbs a) b 0 b (.slice none 0 0) w := ⟨⟨[], rfl, .nil, by simp [val_nil], World.ownsRow_nil w _ _ _⟩, hb, Below.refl _ _⟩
  obtain ⟨i0, hi, hz0, hz1, hz2⟩ := info_parts info_u32
  have HI := Lib.hid hi; have HZ0 := Lib.hid hz0; have HZ1 := Lib.hid hz1; have HZ2 := Lib.hid hz2
  have H := Lib.hid h
  have HL := Lib.hid h.len
  clear h hi hz0 hz1 hz2
  go_enter Tryd.func52, Tryd.ntmps52
  go_wp2_with fail
  go_loopg [5, 6, 7] n (fun q s5 s6 s7 wr => ∃ i k : Nat, i + q = n ∧ s7 = .int .i64 (i : Int) ∧ s6 = lv k ∧ Tw w (limbs a) b i k s5 wr)
  case atStart => exact ⟨0, b, by omega, rfl, rfl, S0⟩
  case round =>
    clear S0
    obtain ⟨i, k, hq, rfl, rfl, S⟩ := hrel
    have HQ := Lib.hid hq
    obtain ⟨ps, pl, plo, pv, po⟩ := S.ps
    have hk := S.k1
    have hb2 : w.heap.size ≤ wr.heap.size := S.bl.size
    have PO := Lib.hid po
    by_cases lt : i < n
    · have il : (i : Int) < n := by omega
      have il0 : (0 : Int) ≤ i := by omega
      have ix : i < (limbs a).length := by rw [HL.out]; exact lt
      obtain ⟨ad, rfl, c1⟩ := (H.out.next S.bl).at_ i ix
      have bx := (lo_limbs a).at_ i ix
      have KS : Hid (∀ (v2 : Value) (w2 : World) (o : Obj), w2.ownsRow w.heap.size 49 1 v2 (i + 1) (ps.map lv ++ [lv ((limbs a)[i] * 2 % 4294967296 + k)]) → (wr.alloc o).grownBy w2 (Value.ownBlock u5) → Tw w (limbs a) b (i + 1) ((limbs a)[i] / 2147483648) v2 w2) := by
        intro v2 w2 o h1 h2
        refine ⟨⟨ps ++ [(limbs a)[i] * 2 % 4294967296 + k], by simp [pl], plo.append (.cons (by omega) .nil), ?_, by simpa using h1⟩, by omega, ?_⟩
        · rw [val_snoc, pl, val_take_succ _ i ix, Nat.pow_succ]
          have := tw_step (x := (limbs a)[i]) pv
          rw [B_eq] at *
          omega
        · exact (S.bl.alloc S.bl.size o).grown h2 (by have := S.bl.size; simp; omega) (own_base po)
      have CX : Hid (∀ W, Below w.heap.size w W → W.cell? (ad.add i) = some (lv (limbs a)[i])) := fun W hW => (H.out.next hW).cell i ix
      generalize (limbs a)[i] = x at *
      have E3 : Hid (lv (x * 2 % 4294967296 + k) = Value.int IntKind.u32 (bits BinOp.or IntKind.u32 ((x : Int) * 2 % 4294967296) (k : Int))) := congrArg (Value.int .u32) (or_bit x k hk).symm
      clear hq S pl plo pv po
      go_wp2_with (at_builtin; refine wpList_append_own _ rfl _ _ 28 rfl w.heap.size 49 i0 (.int .u32 0) 1 4 Tryd.underlying28 HI.out HZ0.out HZ1.out HZ2.out rfl (by decide) _ i (ps.map lv) rfl (PO.out.alloc _) ⟨wr.heap.size, 0, none⟩ 1 1 [lv (x * 2 % 4294967296 + k)] rfl rfl ?qc2 ?qc3 ?qc4 ?qc5 ?qc6 ?_)
      case qc2 => (rw [E3.out]; first | exact cell_one_new wr _ _ | exact fun _ _ h => h)
      case qc3 => first | (intro u hu; rw [List.mem_singleton] at hu; rw [hu]; rfl) | rfl
      case qc4 => unfold maxLen; omega
      case qc5 => omega
      case qc6 => first | omega | (simp; omega)
      intro v2 w2 hown hg _
      have STh := Lib.hid (KS.out v2 w2 _ hown hg)
      have c1b := CX.out w2 STh.out.bl
      clear hown hg
      go_wp2_with fail
      go_roundg (gk - 1)
      case measure => have := HQ.out; omega
      case rel =>
        go_light
        exact ⟨i + 1, x / 2147483648, by have := HQ.out; omega, by go_num, rfl, STh.out⟩
    · obtain rfl : n = i := by omega
      have il : ¬ (n : Int) < n := by omega
      rw [List.take_of_length_le (by rw [HL.out]; exact Nat.le_refl _), val_limbs] at pv
      have ea : n = ln a := by rw [← HL.out, limbs_length]
      have BL := Lib.hid S.bl
      by_cases k0 : k = 0
      · subst k0
        rw [Nat.mul_zero, Nat.add_zero] at pv
        have EZ : Hid (limbs (2 * a + b) = ps) := by
          unfold Hid
          rw [← pv]
          refine limbs_full plo ?_
          by_cases a0 : a = 0
          · left
            rw [a0, ln_zero] at ea
            exact List.eq_nil_of_length_eq_zero (by omega)
          · right
            rw [pl, ea, pv]
            have := le_of_ln a0
            omega
        obtain ⟨A3, c3, rfl, L3⟩ := own_lim po plo
        have L3 := Lib.hid L3
        have k00 : ¬ (0 : Int) < ((0 : Nat) : Int) := by omega
        clear S pl plo pv po hq ea
        go_wp2_with fail
        go_ret
        exact ⟨_, _, _, rfl, by rw [EZ.out]; exact L3.out, BL.out⟩
      · obtain rfl : k = 1 := by omega
        rw [Nat.mul_one] at pv
        have E3 : Hid (lv 1 = Value.int IntKind.u32 1) := rfl
        have KS : Hid (∀ (v2 : Value) (w2 : World) (o : Obj), w2.ownsRow w.heap.size 49 1 v2 (n + 1) (ps.map lv ++ [lv 1]) → (wr.alloc o).grownBy w2 (Value.ownBlock u5) → w2.ownsRow w.heap.size 49 1 v2 (n + 1) ((ps ++ [1]).map lv) ∧ Lo (ps ++ [1]) ∧ limbs (2 * a + b) = ps ++ [1] ∧ Below w.heap.size w w2) := by
          intro v2 w2 o h1 h2
          have lo1 : Lo (ps ++ [1]) := plo.append (.cons (by decide) .nil)
          refine ⟨by simpa using h1, lo1, ?_, (S.bl.alloc S.bl.size o).grown h2 (by have := S.bl.size; simp; omega) (own_base po)⟩
          have e : val (ps ++ [1]) = 2 * a + b := by rw [val_snoc, pl, Nat.mul_one, pv]
          rw [← e]
          exact limbs_val lo1 (fun hn => by rw [List.getLast_append_of_ne_nil _ (by simp)]; decide)
        clear S pl plo pv po hq ea
        go_wp2_with (at_builtin; refine wpList_append_own _ rfl _ _ 28 rfl w.heap.size 49 i0 (.int .u32 0) 1 4 Tryd.underlying28 HI.out HZ0.out HZ1.out HZ2.out rfl (by decide) _ n (ps.map lv) rfl (PO.out.alloc _) ⟨wr.heap.size, 0, none⟩ 1 1 [lv (1)] rfl rfl ?qc2 ?qc3 ?qc4 ?qc5 ?qc6 ?_)
        first | (case qc2 => first | exact cell_one_new wr _ _ | exact fun _ _ h => h) | skip
        case qc3 => first | (intro u hu; rw [List.mem_singleton] at hu; rw [hu]; rfl) | rfl
        case qc4 => unfold maxLen; omega
        case qc5 => omega
        case qc6 => first | omega | (simp; omega)
        intro v2 w2 hown hg _
        have STh := Lib.hid (KS.out v2 w2 _ hown hg)
        clear hown hg
        go_wp2_with fail
        obtain ⟨A3, c3, rfl, L3⟩ := own_lim STh.out.1 STh.out.2.1
        have L3 := Lib.hid L3
        go_wp2_with fail
        go_ret
        exact ⟨_, _, _, rfl, by rw [STh.out.2.2.1]; exact L3.out, STh.out.2.2.2⟩

/-- What is in the first loop of half. -/
structure Hfl (w : World) (xs : List Nat) (i : Nat) (v : Value) (wr : World) : Prop where
  ps : ∃ ps, ps.length = i ∧ Lo ps ∧ val xs / 2 = val ps + B ^ i * (val (xs.drop i) / 2) ∧ wr.ownsRow w.heap.size 49 1 v i (ps.map lv)
  bl : Below w.heap.size w wr
theorem hf_next {xs ps : List Nat} {i : Nat} (hi : i < xs.length) (e : val xs / 2 = val ps + B ^ i * (val (xs.drop i) / 2)) (pl : ps.length = i) : val xs / 2 = val (ps ++ [xs[i] / 2 + val (xs.drop (i + 1)) % 2 * 2147483648]) + B ^ (i + 1) * (val (xs.drop (i + 1)) / 2) := by
  rw [val_snoc, pl, e, val_drop xs i hi, B_eq, hf_step, Nat.pow_succ, Nat.mul_add (4294967296 ^ i) (xs[i] / 2 + val (xs.drop (i + 1)) % 2 * 2147483648), Nat.mul_assoc, Nat.add_assoc]
theorem drop_mod_two (xs : List Nat) (i : Nat) : val (xs.drop i) % 2 = lat xs i % 2 := by
  rw [val_mod_two]
  unfold lat
  rw [List.getElem?_drop, Nat.add_zero]
set_option maxHeartbeats 2000000 in
set_option maxRecDepth 100000 in
theorem half_of {A : Option Addr} {n c : Nat} {xs : List Nat} {w : World} (h : Lim w A n c xs) (hn : n ≤ 100000) : Calls Tryd.prog 49 #[.slice A n c] w fun e w' => RetN (val xs / 2) w e w' := by
  have S0 : Hfl w xs 0 (.slice none 0 0) w := ⟨⟨[], rfl, .nil, by simp [val_nil], World.ownsRow_nil w _ _ _⟩, Below.refl _ _⟩
  obtain ⟨i0, hi, hz0, hz1, hz2⟩ := info_parts info_u32
  have HI := Lib.hid hi; have HZ0 := Lib.hid hz0; have HZ1 := Lib.hid hz1; have HZ2 := Lib.hid hz2
  have H := Lib.hid h
  have HL := Lib.hid h.len
  clear h hi hz0 hz1 hz2
  go_enter Tryd.func49, Tryd.ntmps49
  go_wp2_with fail
  go_loopg [3, 4] n (fun q s3 s4 wr => ∃ i : Nat, i + q = n ∧ s4 = .int .i64 (i : Int) ∧ Hfl w xs i s3 wr)
  case atStart => exact ⟨0, by omega, rfl, S0⟩
  case round =>
    clear S0
    obtain ⟨i, hq, rfl, S⟩ := hrel
    have HQ := Lib.hid hq
    obtain ⟨ps, pl, plo, pv, po⟩ := S.ps
    have hb2 : w.heap.size ≤ wr.heap.size := S.bl.size
    have PO := Lib.hid po
    by_cases lt : i < n
    · have il : (i : Int) < n := by omega
      have il0 : (0 : Int) ≤ i := by omega
      have ix : i < xs.length := by rw [HL.out]; exact lt
      obtain ⟨ad, rfl, c1⟩ := (H.out.next S.bl).at_ i ix
      have bx := H.out.lo.at_ i ix
      have KS : Hid (∀ (y : Nat) (v2 : Value) (w2 : World) (o : Obj), lat xs (i + 1) = y → w2.ownsRow w.heap.size 49 1 v2 (i + 1) (ps.map lv ++ [lv (xs[i] / 2 + y % 2 * 2147483648)]) → (wr.alloc o).grownBy w2 (Value.ownBlock u3) → Hfl w xs (i + 1) v2 w2) := by
        intro y v2 w2 o hy h1 h2
        have e := hf_next ix pv pl
        rw [drop_mod_two, hy] at e
        refine ⟨⟨ps ++ [xs[i] / 2 + y % 2 * 2147483648], by simp [pl], plo.append (.cons (by omega) .nil), e, by simpa using h1⟩, ?_⟩
        exact (S.bl.alloc S.bl.size o).grown h2 (by have := S.bl.size; simp; omega) (own_base po)
      generalize xs[i] = x at *
      by_cases l2 : i + 1 < n
      · have il1 : (i : Int) + 1 < n := by omega
        have il2 : (0 : Int) ≤ (i : Int) + 1 := by omega
        have ix2 : i + 1 < xs.length := by rw [HL.out]; exact l2
        have c2 : wr.cell? ⟨ad.block, ad.off + (i + 1), none⟩ = some (lv xs[i + 1]) := by
          obtain ⟨ad', e, hc⟩ := (H.out.next S.bl).at_ (i + 1) ix2
          injection e with e
          subst e
          have e1 : ad.add (i + 1) = ⟨ad.block, ad.off + (i + 1), none⟩ := by unfold Addr.add; rw [if_neg (by omega)]
          rw [e1] at hc
          exact hc
        have bY := H.out.lo.at_ (i + 1) ix2
        have EY := Lib.hid (lat_in ix2)
        generalize xs[i + 1] = y at *
        have E3 : Hid (lv (x / 2 + y % 2 * 2147483648) = Value.int IntKind.u32 (bits BinOp.or IntKind.u32 ((x : Int) / 2) ((y : Int) * 2147483648 % 4294967296))) := congrArg (Value.int .u32) (or_top x y bx).symm
        clear hq S pl plo pv po
        go_wp2_with (at_builtin; refine wpList_append_own _ rfl _ _ 28 rfl w.heap.size 49 i0 (.int .u32 0) 1 4 Tryd.underlying28 HI.out HZ0.out HZ1.out HZ2.out rfl (by decide) _ i (ps.map lv) rfl (PO.out.alloc _) ⟨wr.heap.size, 0, none⟩ 1 1 [lv (x / 2 + y % 2 * 2147483648)] rfl rfl ?qc2 ?qc3 ?qc4 ?qc5 ?qc6 ?_)
        case qc2 => (rw [E3.out]; first | exact cell_one_new wr _ _ | exact fun _ _ h => h)
        case qc3 => first | (intro u hu; rw [List.mem_singleton] at hu; rw [hu]; rfl) | rfl
        case qc4 => unfold maxLen; omega
        case qc5 => omega
        case qc6 => first | omega | (simp; omega)
        intro v2 w2 hown hg _
        have STh := Lib.hid (KS.out y v2 w2 _ EY.out hown hg)
        clear hown hg
        go_wp2_with fail
        go_roundg (gk - 1)
        case measure => have := HQ.out; omega
        case rel =>
          go_light
          exact ⟨i + 1, by have := HQ.out; omega, by go_num, STh.out⟩
      · have il1 : ¬ (i : Int) + 1 < n := by omega
        have EY := Lib.hid (lat_out (xs := xs) (k := i + 1) (by rw [HL.out]; omega))
        have E3 : Hid (lv (x / 2) = Value.int IntKind.u32 ((x : Int) / 2)) := rfl
        clear hq S pl plo pv po
        go_wp2_with (at_builtin; refine wpList_append_own _ rfl _ _ 28 rfl w.heap.size 49 i0 (.int .u32 0) 1 4 Tryd.underlying28 HI.out HZ0.out HZ1.out HZ2.out rfl (by decide) _ i (ps.map lv) rfl (PO.out.alloc _) ⟨wr.heap.size, 0, none⟩ 1 1 [lv (x / 2)] rfl rfl ?qc2 ?qc3 ?qc4 ?qc5 ?qc6 ?_)
        case qc2 => (rw [E3.out]; first | exact cell_one_new wr _ _ | exact fun _ _ h => h)
        case qc3 => first | (intro u hu; rw [List.mem_singleton] at hu; rw [hu]; rfl) | rfl
        case qc4 => unfold maxLen; omega
        case qc5 => omega
        case qc6 => first | omega | (simp; omega)
        intro v2 w2 hown hg _
        have STh := Lib.hid (KS.out 0 v2 w2 _ EY.out hown hg)
        clear hown hg
        go_wp2_with fail
        go_roundg (gk - 1)
        case measure => have := HQ.out; omega
        case rel =>
          go_light
          exact ⟨i + 1, by have := HQ.out; omega, by go_num, STh.out⟩
    · obtain rfl : n = i := by omega
      have il : ¬ (n : Int) < n := by omega
      rw [List.drop_of_length_le (by rw [HL.out]; exact Nat.le_refl _), val_nil, Nat.zero_div, Nat.mul_zero, Nat.add_zero] at pv
      obtain ⟨A2, c2, rfl, L2⟩ := own_lim po plo
      have PV := Lib.hid pv.symm; have L := Lib.hid L2; have BL := Lib.hid S.bl
      have hc := L2.cap; have ht := L2.top
      clear hq S pl plo pv po L2 HQ lt PO
      go_wp2_with fail
      go_loopg [3] n (fun g s3 wq => g ≤ n ∧ s3 = .slice A2 g c2 ∧ Hid (val (ps.take g) = val ps) ∧ wr = wq)
      case atStart => exact ⟨Nat.le_refl _, rfl, by unfold Hid; rw [List.take_of_length_le (by rw [L.out.len]; exact Nat.le_refl _)], rfl⟩
      case round =>
        obtain ⟨hg, rfl, hvv, rfl⟩ := hrel
        have HT := Lib.hid (L.out.take hg)
        by_cases hz : gk = 0
        · subst hz
          have HV : Hid (limbs (val xs / 2) = []) := by unfold Hid; rw [← PV.out, ← hvv.out]; simp [val_nil, limbs_zero]
          go_wp2_with fail
          go_ret
          exact ⟨_, 0, _, rfl, by rw [HV.out]; exact Lim.none_ _ _ _ (by omega), BL.out⟩
        · obtain ⟨k, rfl⟩ : ∃ k, gk = k + 1 := ⟨gk - 1, by omega⟩
          obtain ⟨ad, rfl⟩ := L.out.some_ (by omega)
          have hkx : k < ps.length := by rw [L.out.len]; omega
          have hcell := L.out.cell k hkx
          by_cases hx : ps[k] = 0
          · have HV : Hid (val (ps.take k) = val ps) := by
              unfold Hid; rw [← hvv.out, val_take_succ ps k hkx, hx, Nat.mul_zero, Nat.add_zero]
            rw [hx] at hcell
            clear hx hvv HT
            go_wp2_with fail
            go_roundg k
            case measure => omega
            case rel => exact ⟨by omega, rfl, HV, rfl⟩
          · have HV : Hid (limbs (val xs / 2) = ps.take (k + 1)) := by
              unfold Hid
              rw [← PV.out, ← hvv.out]
              refine limbs_val (L.out.lo.take _) (getLast_ne (x := ps[k]) ?_ hx)
              rw [List.length_take, Nat.min_eq_left (by omega), Nat.add_sub_cancel, List.getElem?_take, if_pos (by omega), List.getElem?_eq_getElem hkx]
            generalize ps[k] = x at *
            have h2 : ((x : Int) == 0) = false := by simpa using hx
            clear hx hvv
            go_wp2_with fail
            go_ret
            exact ⟨_, _, _, rfl, by rw [HV.out]; exact HT.out, BL.out⟩
set_option maxRecDepth 100000 in
theorem even_any {A : Option Addr} {n c : Nat} {xs : List Nat} {w : World} (h : Lim w A n c xs) : Calls Tryd.prog 48 #[.slice A n c] w fun e w' => e = .returned (.bool (decide (val xs % 2 = 0))) ∧ w = w' := by
  have hl := h.len
  by_cases hz : n = 0
  · subst hz
    have e := List.eq_nil_of_length_eq_zero hl
    subst e
    clear h hl
    go_enter Tryd.func48, Tryd.ntmps48
    go_wp2
    go_ret
    exact ⟨rfl, rfl⟩
  · obtain ⟨ad, rfl⟩ := h.some_ (by omega)
    have hx : 0 < xs.length := by omega
    have hc := h.cell 0 hx
    have E : Hid (val xs % 2 = xs[0] % 2) := by unfold Hid; rw [val_mod_two, lat_in hx]
    generalize xs[0] = x at *
    have h1 : ((n : Int) == 0) = false := by simpa using hz
    have hn0 : (0 : Int) < n := by omega
    have e0 : ad.add 0 = ad := by unfold Addr.add; rw [if_pos rfl]
    rw [e0] at hc
    clear h hl e0
    go_enter Tryd.func48, Tryd.ntmps48
    go_wp2
    go_ret
    refine ⟨congrArg (fun b => Ending.returned (.bool b)) ?_, rfl⟩
    rw [E.out]
    by_cases hh : x % 2 = 0
    · have h2 : (x : Int) % 2 = 0 := by omega
      rw [h2, hh]; rfl
    · have h2 : (x : Int) % 2 = 1 := by omega
      have h3 : x % 2 = 1 := by omega
      rw [h2, h3]; rfl
end Go.Proofs.YthollkngfibgaaaDoor
namespace Go.Proofs.YthollkngfibgaaaDoor
open Go.RowKit
set_option linter.unusedVariables false
set_option linter.unusedSimpArgs false

theorem whole_at {A : Option Addr} {T n c : Nat} {hs : List Nat} {w : World} (hT : 2 * n = T) (h : Hl w A T hs) (ld : Ld hs) (hn : n ≤ 1000000) : Calls Tryd.prog 29 #[.slice A T c] w fun e w' => RetN (hval hs) w e w' := by
  subst hT
  exact whole_any h ld hn
theorem own_any {w : World} {base n : Nat} {v : Value} {hs : List Nat} (h : w.ownsRow base 22 1 v n (hs.map hv)) : ∃ A c g zs, v = .slice A n c ∧ base ≤ g ∧ hs.length = n ∧ (0 < n → A = some ⟨g, 0, none⟩ ∧ g < w.heap.size ∧ Hrow w g hs zs) := by
  by_cases hn : 0 < n
  · obtain ⟨g, c, zs, rfl, hb, _, _, hl, hr⟩ := own_hrow h hn
    exact ⟨_, c, g, zs, rfl, hb, hl, fun _ => ⟨rfl, hr.lt, hr⟩⟩
  · have hl : hs.length = n := by have := h.1; simpa using this
    rcases h.2 with ⟨rfl, rfl⟩ | ⟨g, cap, cur, rfl, h0, hb, h1, h2, h3, h4⟩
    · exact ⟨none, 0, base, [], rfl, Nat.le_refl _, hl, fun k => absurd k (by omega)⟩
    · exact ⟨_, cap, base, [], rfl, Nat.le_refl _, hl, fun k => absurd k hn⟩
theorem hl_of {w : World} {A : Option Addr} {g T : Nat} {ss : List Nat} {zs : List Value} (h : 0 < T → A = some ⟨g, 0, none⟩) (r : 0 < T → Hrow w g ss zs) (sl : ss.length = T) : Hl w A T ss := by
  by_cases hT : 0 < T
  · rw [h hT]; exact (r hT).hl sl
  · exact ⟨sl, fun j hj => by omega⟩
theorem mid_set (X ss : List Nat) (i v : Nat) (hi : i < X.length) (hs : ss.length = i) : (ss ++ X.drop i).set i v = ss ++ [v] ++ X.drop (i + 1) := by
  have e := set_part X ss v 0 i (by omega) hs
  simpa only [List.take_zero, List.nil_append, Nat.zero_add] using e
theorem mid_at (X ss : List Nat) (i : Nat) (hi : i < X.length) (hs : ss.length = i) : (ss ++ X.drop i)[i]? = some X[i] := by
  have e := part_at X ss 0 i (by omega) hs
  simpa only [List.take_zero, List.nil_append, Nat.zero_add] using e
theorem mid_len (X ss : List Nat) (i : Nat) (hi : i ≤ X.length) (hs : ss.length = i) : (ss ++ X.drop i).length = X.length := by simp; omega

/-- What is in the loop of Add. -/
structure Had (w : World) (g : Nat) (X Y : List Nat) (zs : List Value) (i k : Nat) (wr : World) : Prop where
  ss : ∃ ss, ss.length = i ∧ Ld ss ∧ hval ss + H16 ^ i * k = hval (X.take i) + hval (Y.take i) ∧ (0 < X.length → Hrow wr g (ss ++ X.drop i) zs)
  k1 : k ≤ 1
  t : Turn w wr g
section
variable {w : World} {g : Nat} {X Y : List Nat} {zs : List Value} {i k : Nat} {wr : World}
theorem Had.drew (h : Had w g X Y zs i k wr) : Had w g X Y zs i k wr.drew := by
  obtain ⟨ss, a, b, c, r⟩ := h.ss
  exact ⟨⟨ss, a, b, c, fun q => (r q).drew⟩, h.k1, h.t.drew⟩
theorem Had.cell (h : Had w g X Y zs i k wr) (hx : i < X.length) : wr.cell? ⟨g, i, none⟩ = some (.int .u64 (X[i] : Int)) ∧ wr.frozen? ⟨g, i, none⟩ = false := by
  obtain ⟨ss, a, b, c, r⟩ := h.ss
  exact ⟨(r (by omega)).cell' (mid_at X ss i hx a), (r (by omega)).melt _⟩
theorem Had.step (h : Had w g X Y zs i k wr) (hx : i < X.length) (hy : i < Y.length) (LX : Ld X) (LY : Ld Y) :
    Had w g X Y zs (i + 1) ((X[i] + Y[i] + k) / 65536) (wr.setCell ⟨g, i, none⟩ (hv ((X[i] + Y[i] + k) % 65536))) := by
  obtain ⟨ss, hl, ld, hval_, r⟩ := h.ss
  have hk := h.k1
  have b1 := LX.at_ i hx
  have b2 := LY.at_ i hy
  refine ⟨⟨ss ++ [(X[i] + Y[i] + k) % 65536], by simp [hl], ld.append (.cons (Nat.mod_lt _ (by decide)) .nil), ?_, fun q => ?_⟩, by omega, h.t.setCell _ _⟩
  · rw [hval_snoc, hl, hval_take_succ X i hx, hval_take_succ Y i hy, Nat.pow_succ]
    have := had_step (c := X[i] + Y[i] + k) hval_ (x := X[i]) (y := Y[i]) rfl
    rw [← H16_eq] at this
    rw [H16_eq] at *
    omega
  · have := (r q).set_ i (by rw [mid_len X ss i (by omega) hl]; exact hx) ((X[i] + Y[i] + k) % 65536)
    rwa [mid_set X ss i _ hx hl] at this
theorem Had.done {T : Nat} (h : Had w g X Y zs T k wr) (hx : X.length = T) (hy : Y.length = T) (lt : hval X + hval Y < H16 ^ T) :
    ∃ ss, ss.length = T ∧ Ld ss ∧ hval ss = hval X + hval Y ∧ (0 < T → Hrow wr g ss zs) := by
  obtain ⟨ss, hl, ld, hv_, r⟩ := h.ss
  rw [List.take_of_length_le (by omega), List.take_of_length_le (by omega)] at hv_
  have e : ss ++ X.drop T = ss := by rw [List.drop_of_length_le (by omega), List.append_nil]
  rw [e, hx] at r
  refine ⟨ss, hl, ld, ?_, r⟩
  have hk := h.k1
  have : k = 0 ∨ k = 1 := by omega
  rcases this with rfl | rfl
  · omega
  · rw [Nat.mul_one] at hv_; omega
end
theorem sum_lt {xs ys : List Nat} {M : Nat} (lx : Lo xs) (ly : Lo ys) (hx : xs.length ≤ M) (hy : ys.length ≤ M) : val xs + val ys < H16 ^ (2 * (M + 1)) := by
  have a := val_lt lx
  have b := val_lt ly
  have a' := Nat.pow_le_pow_right B_pos hx
  have b' := Nat.pow_le_pow_right B_pos hy
  rw [H16_pow, Nat.pow_succ]
  have : B ^ M * 2 ≤ B ^ M * B := Nat.mul_le_mul_left _ (by rw [B_eq]; decide)
  omega
theorem u64_sum (x y k : Nat) : Value.int IntKind.u64 (((x : Int) + (y : Int) + (k : Int)) % 65536) = hv ((x + y + k) % 65536) := congrArg (Value.int .u64) (by omega)
theorem u64_over (x y k : Nat) : Value.int IntKind.u64 (((x : Int) + (y : Int) + (k : Int)) / 65536) = hv ((x + y + k) / 65536) := congrArg (Value.int .u64) (by omega)

end Go.Proofs.YthollkngfibgaaaDoor
