/- Plain arithmetic: halves of limbs, of 16 bits each. The document's answers: halves in memory; the walks of Half, Whole. Plain arithmetic: twice a number and a bit, half a number; limbs by their length. -/
import Derived.Test.YtacobmnghdibaaaJ02
import Derived.Test.YtacobmnghdibaaaJ05
import Derived.Test.YtacobmnghdibaaaJ04
namespace Go.Proofs.Ytacobmnghdibaaa
/-- One more than the greatest half. -/
@[irreducible] def H16 : Nat := 65536
theorem H16_eq : H16 = 65536 := by unfold H16; rfl
theorem H16_pos : 0 < H16 := by rw [H16_eq]; decide
theorem H16_sq : H16 ^ 2 = B := by rw [H16_eq, B_eq]
theorem H16_pow (k : Nat) : H16 ^ (2 * k) = B ^ k := by rw [Nat.pow_mul, H16_sq]
/-- The number of halves, the lowest first. -/
def hval : List Nat → Nat
  | [] => 0
  | x :: r => x + H16 * hval r
theorem hval_nil : hval [] = 0 := rfl
theorem hval_cons (x : Nat) (r : List Nat) : hval (x :: r) = x + H16 * hval r := rfl
/-- Halves are below H16. -/
def Ld (xs : List Nat) : Prop := ∀ x ∈ xs, x < 65536
theorem Ld.nil : Ld [] := fun x hx => by cases hx
theorem Ld.cons {x : Nat} {r : List Nat} (h : x < 65536) (k : Ld r) : Ld (x :: r) := fun y hy => by
  rcases List.mem_cons.1 hy with rfl | hy
  · exact h
  · exact k y hy
theorem Ld.append {xs ys : List Nat} (h : Ld xs) (k : Ld ys) : Ld (xs ++ ys) := fun y hy => by
  rcases List.mem_append.1 hy with hy | hy
  · exact h y hy
  · exact k y hy
theorem Ld.at_ {xs : List Nat} (h : Ld xs) (k : Nat) (hk : k < xs.length) : xs[k] < 65536 := h _ (List.getElem_mem hk)
theorem Ld.head {x : Nat} {r : List Nat} (h : Ld (x :: r)) : x < 65536 := h x (by simp)
theorem Ld.tail {x : Nat} {r : List Nat} (h : Ld (x :: r)) : Ld r := fun y hy => h y (by simp [hy])
theorem Ld.drop {xs : List Nat} (h : Ld xs) (k : Nat) : Ld (xs.drop k) := fun y hy => h y (List.mem_of_mem_drop hy)
theorem ld_zeros (n : Nat) : Ld (List.replicate n 0) := fun y hy => by rw [(List.mem_replicate.1 hy).2]; decide
theorem ld_set {xs : List Nat} (h : Ld xs) (i v : Nat) (hv : v < 65536) : Ld (xs.set i v) := fun y hy => by
  rcases List.mem_or_eq_of_mem_set hy with k | k
  · exact h y k
  · rw [k]; exact hv
theorem hval_append (xs ys : List Nat) : hval (xs ++ ys) = hval xs + H16 ^ xs.length * hval ys := by
  induction xs with
  | nil => simp [hval_nil]
  | cons x r ih => rw [List.cons_append, hval_cons, hval_cons, ih, List.length_cons, Nat.pow_succ, Nat.mul_add, Nat.add_assoc, Nat.mul_comm (H16 ^ r.length) H16, Nat.mul_assoc]
theorem hval_snoc (xs : List Nat) (y : Nat) : hval (xs ++ [y]) = hval xs + H16 ^ xs.length * y := by
  rw [hval_append]; simp [hval_cons, hval_nil]
theorem hval_take_succ (xs : List Nat) (k : Nat) (h : k < xs.length) : hval (xs.take (k + 1)) = hval (xs.take k) + H16 ^ k * xs[k] := by
  rw [List.take_succ_eq_append_getElem h, hval_snoc, List.length_take, Nat.min_eq_left (by omega)]
theorem hval_zeros (n : Nat) : hval (List.replicate n 0) = 0 := by
  induction n with
  | zero => rfl
  | succ n ih => rw [List.replicate_succ, hval_cons, ih, Nat.mul_zero]
theorem hval_lt {xs : List Nat} (h : Ld xs) : hval xs < H16 ^ xs.length := by
  induction xs with
  | nil => simp [hval_nil]
  | cons x r ih =>
    have i := ih h.tail
    have e : H16 ^ (x :: r).length = H16 * H16 ^ r.length := by rw [List.length_cons, Nat.pow_succ, Nat.mul_comm]
    have hx := h.head
    rw [← H16_eq] at hx
    rw [hval_cons, e]
    have : H16 * (hval r + 1) ≤ H16 * H16 ^ r.length := Nat.mul_le_mul_left _ i
    rw [Nat.mul_add] at this
    omega
theorem hval_set (ps : List Nat) (k v : Nat) (h : k < ps.length) : hval (ps.set k v) + H16 ^ k * ps[k] = hval ps + H16 ^ k * v := by
  induction ps generalizing k with
  | nil => simp at h
  | cons x r ih =>
    cases k with
    | zero => simp [hval_cons]; omega
    | succ k =>
      have := ih k (by simpa using h)
      simp only [List.set_cons_succ, hval_cons, List.getElem_cons_succ, Nat.pow_succ]
      have e : H16 * (hval (r.set k v) + H16 ^ k * r[k]'(by simpa using h)) = H16 * (hval r + H16 ^ k * v) := by rw [this]
      rw [Nat.mul_add, Nat.mul_add, ← Nat.mul_assoc, ← Nat.mul_assoc, Nat.mul_comm H16 (H16 ^ k)] at e
      omega

/-- The limb that is there, or nought. -/
def lat (xs : List Nat) (k : Nat) : Nat := xs[k]?.getD 0
theorem lat_in {xs : List Nat} {k : Nat} (h : k < xs.length) : lat xs k = xs[k] := by unfold lat; rw [List.getElem?_eq_getElem h]; rfl
theorem lat_out {xs : List Nat} {k : Nat} (h : ¬ k < xs.length) : lat xs k = 0 := by unfold lat; rw [List.getElem?_eq_none (by omega)]; rfl
theorem lat_lt {xs : List Nat} (h : Lo xs) (k : Nat) : lat xs k < 4294967296 := by
  by_cases hk : k < xs.length
  · rw [lat_in hk]; exact h.at_ k hk
  · rw [lat_out hk]; decide
theorem val_take_lat (xs : List Nat) (k : Nat) : val (xs.take (k + 1)) = val (xs.take k) + B ^ k * lat xs k := by
  by_cases hk : k < xs.length
  · rw [lat_in hk]; exact val_take_succ xs k hk
  · rw [lat_out hk, List.take_of_length_le (by omega), List.take_of_length_le (by omega), Nat.mul_zero, Nat.add_zero]
/-- Half i. -/
def hf (xs : List Nat) (i : Nat) : Nat := if i % 2 = 0 then lat xs (i / 2) % 65536 else lat xs (i / 2) / 65536
theorem hf_even (xs : List Nat) (i : Nat) (h : i % 2 = 0) : hf xs i = lat xs (i / 2) % 65536 := by unfold hf; rw [if_pos h]
theorem hf_odd (xs : List Nat) (i : Nat) (h : ¬ i % 2 = 0) : hf xs i = lat xs (i / 2) / 65536 := by unfold hf; rw [if_neg h]
theorem hf_lt {xs : List Nat} (h : Lo xs) (i : Nat) : hf xs i < 65536 := by
  have := lat_lt h (i / 2)
  unfold hf
  split <;> omega
/-- So many halves. -/
def halves (xs : List Nat) : Nat → List Nat
  | 0 => []
  | n + 1 => halves xs n ++ [hf xs n]
theorem halves_succ (xs : List Nat) (n : Nat) : halves xs (n + 1) = halves xs n ++ [hf xs n] := rfl
theorem halves_len (xs : List Nat) (n : Nat) : (halves xs n).length = n := by
  induction n with
  | zero => rfl
  | succ n ih => rw [halves_succ, List.length_append, ih]; rfl
theorem ld_halves {xs : List Nat} (h : Lo xs) (n : Nat) : Ld (halves xs n) := by
  induction n with
  | zero => exact .nil
  | succ n ih => exact ih.append (.cons (hf_lt h n) .nil)
theorem two_halves (P x : Nat) : P * (x % 65536) + P * 65536 * (x / 65536) = P * x := by
  have e : x = x % 65536 + 65536 * (x / 65536) := by omega
  conv => rhs; rw [e, Nat.mul_add, ← Nat.mul_assoc]
theorem halves_val (xs : List Nat) (k : Nat) : hval (halves xs (2 * k)) = val (xs.take k) := by
  induction k with
  | zero => rfl
  | succ k ih =>
    have e : 2 * (k + 1) = 2 * k + 1 + 1 := by omega
    rw [e, halves_succ, halves_succ, hval_snoc, hval_snoc, ih, List.length_append, halves_len, List.length_singleton, hf_even _ _ (by omega), hf_odd _ _ (by omega), show 2 * k / 2 = k by omega, show (2 * k + 1) / 2 = k by omega, val_take_lat, Nat.pow_succ, H16_pow, H16_eq, Nat.add_assoc, two_halves]
theorem halves_whole {xs : List Nat} {k : Nat} (h : xs.length ≤ k) : hval (halves xs (2 * k)) = val xs := by rw [halves_val, List.take_of_length_le h]
/-- Two halves are a limb. -/
theorem hval_two (hs : List Nat) (k : Nat) (h : 2 * k + 1 < hs.length) : hval (hs.take (2 * (k + 1))) = hval (hs.take (2 * k)) + B ^ k * (hs[2 * k] + 65536 * hs[2 * k + 1]) := by
  have e : 2 * (k + 1) = 2 * k + 1 + 1 := by omega
  rw [e, hval_take_succ hs (2 * k + 1) h, hval_take_succ hs (2 * k) (by omega), Nat.pow_succ, H16_pow, H16_eq, Nat.mul_add, Nat.mul_assoc, Nat.add_assoc]
/-- A step of a sum. -/
theorem had_step {P s x y k v c : Nat} (h : v + P * k = s) (e : x + y + k = c) : v + P * (c % 65536) + P * 65536 * (c / 65536) = s + P * x + P * y := by
  have := two_halves P c
  rw [Nat.add_assoc, this, ← e, ← h, Nat.mul_add, Nat.mul_add]
  omega
theorem hsb_limb (x y k : Nat) (hx : x < 65536) (hy : y < 65536) (hk : k ≤ 1) : x + 65536 * (1 - (65536 + x - y - k) / 65536) = (65536 + x - y - k) % 65536 + y + k := by
  omega
theorem hsb_step {P s t v x y k b d : Nat} (h : s + P * k = v + t) (e : x + 65536 * b = d + y + k) : s + P * x + P * 65536 * b = v + P * d + (t + P * y) := by
  have : P * x + P * 65536 * b = P * d + P * y + P * k := by
    rw [Nat.mul_assoc, ← Nat.mul_add, e, Nat.mul_add, Nat.mul_add]
  omega
theorem hpr_step {P V S p x y k T v : Nat} (h : V + P * k = S) (e : v + P * p = V + P * (T % 65536)) (ht : T = p + x * y + k) : v + P * 65536 * (T / 65536) = S + P * (x * y) := by
  have e3 := two_halves P T
  have e4 : P * T = P * p + P * (x * y) + P * k := by rw [ht, Nat.mul_add, Nat.mul_add]
  omega
end Go.Proofs.Ytacobmnghdibaaa
namespace Go.Proofs.Ytacobmnghdibaaa
open Go.RowKit
set_option linter.unusedVariables false
set_option linter.unusedSimpArgs false

/-- A half. -/
abbrev hv (x : Nat) : Value := .int .u64 (x : Int)
theorem info_u64 : (Try.prog.info? 22).map (fun i => (i.zero, i.size, i.bytes)) = some (some (.int .u64 0), 1, 8) := by kernel_rfl
/-- Block g begins with these halves. -/
structure Hrow (w : World) (g : Nat) (hs : List Nat) (ys : List Value) : Prop where
  blk : w.heap[g]? = some (.cells (hs.map hv ++ ys).toArray 22 (0, 0))
section
variable {w w' : World} {g : Nat} {hs : List Nat} {ys : List Value}
theorem Hrow.lt (h : Hrow w g hs ys) : g < w.heap.size := (Array.getElem?_eq_some_iff.1 h.blk).1
theorem Hrow.cell (h : Hrow w g hs ys) (i : Nat) (hi : i < hs.length) : w.cell? ⟨g, i, none⟩ = some (hv hs[i]) := by
  have := h.blk
  simp [World.cell?, this, List.getElem?_append_left, hi]
theorem Hrow.cell' (h : Hrow w g hs ys) {i x : Nat} (hi : hs[i]? = some x) : w.cell? ⟨g, i, none⟩ = some (hv x) := by
  obtain ⟨a, b⟩ := List.getElem?_eq_some_iff.1 hi
  rw [h.cell i a, b]
theorem Hrow.melt (h : Hrow w g hs ys) (i : Nat) : w.frozen? ⟨g, i, none⟩ = false := by
  have := h.blk
  simp [World.frozen?, this]
theorem Hrow.set_ (h : Hrow w g hs ys) (i : Nat) (hi : i < hs.length) (v : Nat) : Hrow (w.setCell ⟨g, i, none⟩ (hv v)) g (hs.set i v) ys := by
  refine ⟨?_⟩
  have := h.blk
  simp [World.setCell, Array.getElem?_modify, this]
  rw [List.set_append_left _ _ (by simpa using hi)]
theorem Hrow.drew (h : Hrow w g hs ys) : Hrow w.drew g hs ys := ⟨h.blk⟩
theorem Hrow.next (h : Hrow w g hs ys) (hb : Below w.heap.size w w') : Hrow w' g hs ys := ⟨(hb.block g h.lt).trans h.blk⟩
theorem Hrow.turn (h : Hrow w g hs ys) {g' : Nat} (t : Turn w w' g') (hne : g ≠ g') : Hrow w' g hs ys := ⟨(t.block _ hne).trans h.blk⟩
end
/-- The slice at A of length n reads as the halves hs. -/
structure Hl (w : World) (A : Option Addr) (n : Nat) (hs : List Nat) : Prop where
  len : hs.length = n
  at_ : ∀ j (h : j < hs.length), ∃ ad, A = some ad ∧ w.cell? (ad.add j) = some (hv hs[j])
theorem Hrow.hl {w : World} {g n : Nat} {hs : List Nat} {ys : List Value} (h : Hrow w g hs ys) (hn : hs.length = n) : Hl w (some ⟨g, 0, none⟩) n hs :=
  ⟨hn, fun j hj => ⟨_, rfl, by rw [add_lit, Nat.zero_add]; exact h.cell j hj⟩⟩
theorem own_hrow {w : World} {base n : Nat} {v : Value} {hs : List Nat} (h : w.ownsRow base 22 1 v n (hs.map hv)) (hn : 0 < n) : ∃ g c ys, v = .slice (some ⟨g, 0, none⟩) n c ∧ base ≤ g ∧ n ≤ c ∧ c ≤ maxLen ∧ hs.length = n ∧ Hrow w g hs ys := by
  have hl : hs.length = n := by have := h.1; simpa using this
  rcases h.2 with ⟨rfl, rfl⟩ | ⟨g, cap, cur, rfl, h0, hb, h1, h2, h3, h4⟩
  · omega
  · refine ⟨g, cap, cur.toList.drop n, rfl, h0, h1, h2, hl, ⟨?_⟩⟩
    rw [hb]
    have : cur = (hs.map hv ++ cur.toList.drop n).toArray := by
      apply Array.ext'
      rw [Nat.mul_one] at h4
      rw [← h4]
      simp
    rw [← this]
theorem own_base {w : World} {base n : Nat} {e : TypeId} {v : Value} {xs : List Value} (h : w.ownsRow base e 1 v n xs) : ∀ k, v.ownBlock = some k → base ≤ k := by
  intro k hk
  rcases h.2 with ⟨rfl, _⟩ | ⟨g, cap, cur, rfl, h0, _⟩
  · simp [Value.ownBlock] at hk
  · simp [Value.ownBlock] at hk
    omega

/-- What is in the loop of Half. -/
structure Hlf (w : World) (xs : List Nat) (i : Nat) (v : Value) (wr : World) : Prop where
  own : wr.ownsRow w.heap.size 22 1 v i ((halves xs i).map hv)
  bl : Below w.heap.size w wr
theorem Hlf.step {w : World} {xs : List Nat} {i : Nat} {v v2 : Value} {wr w2 : World} {o : Obj} (h : Hlf w xs i v wr) (hown : w2.ownsRow w.heap.size 22 1 v2 (i + 1) ((halves xs i).map hv ++ [hv (hf xs i)])) (hg : (wr.alloc o).grownBy w2 v.ownBlock) : Hlf w xs (i + 1) v2 w2 := by
  refine ⟨?_, ?_⟩
  · rw [halves_succ]; simpa using hown
  · exact (h.bl.alloc h.bl.size o).grown hg (by have := h.bl.size; simp; omega) (own_base h.own)
/-- What Half leaves. -/
def RetH (w : World) (xs : List Nat) (n : Nat) (e : Ending) (w' : World) : Prop := ∃ v, e = .returned v ∧ w'.ownsRow w.heap.size 22 1 v n ((halves xs n).map hv) ∧ Below w.heap.size w w'
theorem half_cast (i : Nat) : (i : Int).tdiv 2 = ((i / 2 : Nat) : Int) := (Int.ofNat_tdiv i 2).symm
theorem rem_cast (i : Nat) : (i : Int).tmod 2 = ((i % 2 : Nat) : Int) := (Int.ofNat_tmod i 2).symm

set_option maxHeartbeats 2000000 in
set_option maxRecDepth 100000 in
theorem half_any {A : Option Addr} {m c n : Nat} {xs : List Nat} {w : World} (h : Lim w A m c xs) (hn : n ≤ 1000000) : Calls Try.prog 78 #[.slice A m c, .int .i64 (n : Int)] w fun e w' => RetH w xs n e w' := by
  have S0 : Hlf w xs 0 (.slice none 0 0) w := ⟨World.ownsRow_nil w _ _ _, Below.refl _ _⟩
  obtain ⟨i0, hi, hz0, hz1, hz2⟩ := info_parts info_u64
  have HI := Lib.hid hi; have HZ0 := Lib.hid hz0; have HZ1 := Lib.hid hz1; have HZ2 := Lib.hid hz2
  have H := Lib.hid h
  have HL := Lib.hid h.len
  clear h hi hz0 hz1 hz2
  go_enter Try.func78, Try.ntmps78
  go_wp2_with fail
  go_loopg [5, 6] n (fun q s5 s6 wr => ∃ i : Nat, i + q = n ∧ s6 = .int .i64 (i : Int) ∧ Hlf w xs i s5 wr)
  case atStart => exact ⟨0, by omega, rfl, S0⟩
  case round =>
    clear S0
    obtain ⟨i, hq, rfl, S⟩ := hrel
    have HQ := Lib.hid hq
    by_cases lt : i < n
    · have il : (i : Int) < n := by omega
      have SH := Lib.hid S
      have hb2 : w.heap.size ≤ wr.heap.size := S.bl.size
      have E1 := half_cast i
      have E2 := rem_cast i
      clear hq S
      by_cases hin : i / 2 < m
      · have hin' : ((i / 2 : Nat) : Int) < m := by omega
        have h00 : (0 : Int) ≤ ((i / 2 : Nat) : Int) := by omega
        have hx : i / 2 < xs.length := by rw [HL.out]; exact hin
        obtain ⟨ad, rfl, c1⟩ := (H.out.next SH.out.bl).at_ (i / 2) hx
        have EL := Lib.hid (lat_in hx)
        have bx := H.out.lo.at_ _ hx
        generalize xs[i / 2] = x at *
        by_cases ev : i % 2 = 0
        · have E3 : Hid (hv (hf xs i) = Value.int IntKind.u64 ((x : Int) % 65536)) := by
            unfold Hid; rw [hf_even _ _ ev, EL.out]; exact congrArg (Value.int .u64) (by omega)
          rw [ev] at E2
          go_wp2_with (at_builtin; refine wpList_append_own _ rfl _ _ 106 rfl w.heap.size 22 i0 (.int .u64 0) 1 8 Try.underlying106 HI.out HZ0.out HZ1.out HZ2.out rfl (by decide) _ i ((halves xs i).map hv) rfl (SH.out.own.alloc _) ⟨wr.heap.size, 0, none⟩ 1 1 [hv (hf xs i)] rfl rfl ?qc2 ?qc3 ?qc4 ?qc5 ?qc6 ?_)
          case qc2 => (rw [E3.out]; first | exact cell_one_new wr _ _ | exact fun _ _ h => h)
          case qc3 => first | (intro u hu; rw [List.mem_singleton] at hu; rw [hu]; rfl) | rfl
          case qc4 => unfold maxLen; omega
          case qc5 => omega
          case qc6 => first | omega | (simp; omega)
          intro v2 w2 hown hg _
          have STh := Lib.hid (SH.out.step (v2 := v2) (w2 := w2) hown hg)
          clear hown hg SH
          go_wp2_with fail
          go_roundg (gk - 1)
          case measure => have := HQ.out; omega
          case rel =>
            go_light
            exact ⟨i + 1, by have := HQ.out; omega, by go_num, STh.out⟩
        · have E3 : Hid (hv (hf xs i) = Value.int IntKind.u64 ((x : Int) / 65536)) := by
            unfold Hid; rw [hf_odd _ _ ev, EL.out]; exact congrArg (Value.int .u64) (by omega)
          rw [show i % 2 = 1 by omega] at E2
          go_wp2_with (at_builtin; refine wpList_append_own _ rfl _ _ 106 rfl w.heap.size 22 i0 (.int .u64 0) 1 8 Try.underlying106 HI.out HZ0.out HZ1.out HZ2.out rfl (by decide) _ i ((halves xs i).map hv) rfl (SH.out.own.alloc _) ⟨wr.heap.size, 0, none⟩ 1 1 [hv (hf xs i)] rfl rfl ?qc2 ?qc3 ?qc4 ?qc5 ?qc6 ?_)
          case qc2 => (rw [E3.out]; first | exact cell_one_new wr _ _ | exact fun _ _ h => h)
          case qc3 => first | (intro u hu; rw [List.mem_singleton] at hu; rw [hu]; rfl) | rfl
          case qc4 => unfold maxLen; omega
          case qc5 => omega
          case qc6 => first | omega | (simp; omega)
          intro v2 w2 hown hg _
          have STh := Lib.hid (SH.out.step (v2 := v2) (w2 := w2) hown hg)
          clear hown hg SH
          go_wp2_with fail
          go_roundg (gk - 1)
          case measure => have := HQ.out; omega
          case rel =>
            go_light
            exact ⟨i + 1, by have := HQ.out; omega, by go_num, STh.out⟩
      · have hin' : ¬ ((i / 2 : Nat) : Int) < m := by omega
        have hx : ¬ i / 2 < xs.length := by rw [HL.out]; exact hin
        have EL := Lib.hid (lat_out hx)
        by_cases ev : i % 2 = 0
        · have E3 : Hid (hv (hf xs i) = Value.int IntKind.u64 0) := by
            unfold Hid; rw [hf_even _ _ ev, EL.out]; rfl
          rw [ev] at E2
          go_wp2_with (at_builtin; refine wpList_append_own _ rfl _ _ 106 rfl w.heap.size 22 i0 (.int .u64 0) 1 8 Try.underlying106 HI.out HZ0.out HZ1.out HZ2.out rfl (by decide) _ i ((halves xs i).map hv) rfl (SH.out.own.alloc _) ⟨wr.heap.size, 0, none⟩ 1 1 [hv (hf xs i)] rfl rfl ?qc2 ?qc3 ?qc4 ?qc5 ?qc6 ?_)
          case qc2 => (rw [E3.out]; first | exact cell_one_new wr _ _ | exact fun _ _ h => h)
          case qc3 => first | (intro u hu; rw [List.mem_singleton] at hu; rw [hu]; rfl) | rfl
          case qc4 => unfold maxLen; omega
          case qc5 => omega
          case qc6 => first | omega | (simp; omega)
          intro v2 w2 hown hg _
          have STh := Lib.hid (SH.out.step (v2 := v2) (w2 := w2) hown hg)
          clear hown hg SH
          go_wp2_with fail
          go_roundg (gk - 1)
          case measure => have := HQ.out; omega
          case rel =>
            go_light
            exact ⟨i + 1, by have := HQ.out; omega, by go_num, STh.out⟩
        · have E3 : Hid (hv (hf xs i) = Value.int IntKind.u64 0) := by
            unfold Hid; rw [hf_odd _ _ ev, EL.out]; rfl
          rw [show i % 2 = 1 by omega] at E2
          go_wp2_with (at_builtin; refine wpList_append_own _ rfl _ _ 106 rfl w.heap.size 22 i0 (.int .u64 0) 1 8 Try.underlying106 HI.out HZ0.out HZ1.out HZ2.out rfl (by decide) _ i ((halves xs i).map hv) rfl (SH.out.own.alloc _) ⟨wr.heap.size, 0, none⟩ 1 1 [hv (hf xs i)] rfl rfl ?qc2 ?qc3 ?qc4 ?qc5 ?qc6 ?_)
          case qc2 => (rw [E3.out]; first | exact cell_one_new wr _ _ | exact fun _ _ h => h)
          case qc3 => first | (intro u hu; rw [List.mem_singleton] at hu; rw [hu]; rfl) | rfl
          case qc4 => unfold maxLen; omega
          case qc5 => omega
          case qc6 => first | omega | (simp; omega)
          intro v2 w2 hown hg _
          have STh := Lib.hid (SH.out.step (v2 := v2) (w2 := w2) hown hg)
          clear hown hg SH
          go_wp2_with fail
          go_roundg (gk - 1)
          case measure => have := HQ.out; omega
          case rel =>
            go_light
            exact ⟨i + 1, by have := HQ.out; omega, by go_num, STh.out⟩
    · obtain rfl : n = i := by omega
      have il : ¬ (n : Int) < n := by omega
      have S := Lib.hid S
      clear hq lt
      go_wp2_with fail
      go_ret
      exact ⟨_, rfl, S.out.own, S.out.bl⟩

/-- What is in the first loop of Whole. -/
structure Whl (w : World) (hs : List Nat) (k : Nat) (v : Value) (wr : World) : Prop where
  ps : ∃ ps, ps.length = k ∧ Lo ps ∧ val ps = hval (hs.take (2 * k)) ∧ wr.ownsRow w.heap.size 62 1 v k (ps.map lv)
  bl : Below w.heap.size w wr
theorem Whl.step {w : World} {hs : List Nat} {k : Nat} {v v2 : Value} {wr w2 : World} {o : Obj} {ps : List Nat} (pl : ps.length = k) (plo : Lo ps) (pv : val ps = hval (hs.take (2 * k))) (po : wr.ownsRow w.heap.size 62 1 v k (ps.map lv)) (bl : Below w.heap.size w wr)
    (ld : Ld hs) (hk : 2 * k + 1 < hs.length) (hown : w2.ownsRow w.heap.size 62 1 v2 (k + 1) (ps.map lv ++ [lv (hs[2 * k] + 65536 * hs[2 * k + 1])])) (hg : (wr.alloc o).grownBy w2 v.ownBlock) : Whl w hs (k + 1) v2 w2 := by
  have b1 := ld.at_ (2 * k) (by omega)
  have b2 := ld.at_ (2 * k + 1) hk
  refine ⟨⟨ps ++ [hs[2 * k] + 65536 * hs[2 * k + 1]], by simp [pl], plo.append (.cons (by omega) .nil), ?_, by simpa using hown⟩, ?_⟩
  · rw [val_snoc, pl, pv, hval_two hs k hk]
  · exact (bl.alloc bl.size o).grown hg (by have := bl.size; simp; omega) (own_base po)

set_option maxHeartbeats 2000000 in
set_option maxRecDepth 100000 in
theorem whole_any {A : Option Addr} {n c : Nat} {hs : List Nat} {w : World} (h : Hl w A (2 * n) hs) (ld : Ld hs) (hn : n ≤ 1000000) : Calls Try.prog 79 #[.slice A (2 * n) c] w fun e w' => RetN (hval hs) w e w' := by
  have S0 : Whl w hs 0 (.slice none 0 0) w := ⟨⟨[], rfl, .nil, rfl, World.ownsRow_nil w _ _ _⟩, Below.refl _ _⟩
  obtain ⟨i0, hi, hz0, hz1, hz2⟩ := info_parts info_u32
  have HI := Lib.hid hi; have HZ0 := Lib.hid hz0; have HZ1 := Lib.hid hz1; have HZ2 := Lib.hid hz2
  have H := Lib.hid h; have LD := Lib.hid ld
  have HL := Lib.hid h.len
  clear h hi hz0 hz1 hz2 ld
  generalize hN : 2 * n = N at *
  have HN := Lib.hid hN
  have hN2 : N ≤ 2000000 := by omega
  clear hN
  go_enter Try.func79, Try.ntmps79
  go_wp2_with fail
  go_loopg [3, 4] n (fun q s3 s4 wr => ∃ i k : Nat, k + q = n ∧ s4 = .int .i64 (i : Int) ∧ Hid (i = 2 * k) ∧ Whl w hs k s3 wr)
  case atStart => exact ⟨0, 0, by omega, rfl, rfl, S0⟩
  case round =>
    clear S0
    obtain ⟨i, k, hq, rfl, ei, S⟩ := hrel
    have HQ := Lib.hid hq
    by_cases lt : k < n
    · have i1 : i + 1 < N := by have := HN.out; have := ei.out; omega
      have i1l : i + 1 < hs.length := by rw [HL.out]; exact i1
      have il : (i : Int) < N := by omega
      have il1 : (i : Int) + 1 < N := by omega
      have il0 : (0 : Int) ≤ i := by omega
      have il2 : (0 : Int) ≤ (i : Int) + 1 := by omega
      obtain ⟨ps, pl, plo, pv, po⟩ := S.ps
      have c1 : ∃ ad x, A = some ad ∧ x < 65536 ∧ hs[i]? = some x ∧ wr.cell? (ad.add i) = some (.int .u64 (x : Int)) := by
        obtain ⟨ad, e, hc⟩ := H.out.at_ i (by omega)
        exact ⟨ad, _, e, LD.out.at_ i (by omega), List.getElem?_eq_getElem _, keep_cell S.bl hc⟩
      obtain ⟨ad, x, rfl, bx, ex, c1⟩ := c1
      have c2 : ∃ y, y < 65536 ∧ hs[i + 1]? = some y ∧ wr.cell? ⟨ad.block, ad.off + (i + 1), none⟩ = some (.int .u64 (y : Int)) := by
        obtain ⟨ad, e, hc⟩ := H.out.at_ (i + 1) i1l
        injection e with e
        subst e
        have e1 : ad.add (i + 1) = ⟨ad.block, ad.off + (i + 1), none⟩ := by unfold Addr.add; rw [if_neg (by omega)]
        rw [e1] at hc
        exact ⟨_, LD.out.at_ (i + 1) i1l, List.getElem?_eq_getElem _, keep_cell S.bl hc⟩
      obtain ⟨y, bY, ey, c2⟩ := c2
      have hb2 : w.heap.size ≤ wr.heap.size := S.bl.size
      have KS : Hid (∀ (v2 : Value) (w2 : World) (o : Obj), w2.ownsRow w.heap.size 62 1 v2 (k + 1) (ps.map lv ++ [lv (x + 65536 * y)]) → (wr.alloc o).grownBy w2 (Value.ownBlock u3) → Whl w hs (k + 1) v2 w2) := by
        intro v2 w2 o h1 h2
        have e := ei.out
        subst e
        refine Whl.step pl plo pv po S.bl LD.out i1l ?_ h2
        rw [(List.getElem?_eq_some_iff.1 ex).2, (List.getElem?_eq_some_iff.1 ey).2]
        exact h1
      have PO := Lib.hid po
      have E3 : Hid (lv (x + 65536 * y) = Value.int IntKind.u32 ((x : Int) + 65536 * (y : Int))) := congrArg (Value.int .u32) (by omega)
      have EI : Hid (i + 2 = 2 * (k + 1)) := by unfold Hid; rw [ei.out]; omega
      clear hq S pl plo pv po ex ey ei
      go_wp2_with (at_builtin; refine wpList_append_own _ rfl _ _ 24 rfl w.heap.size 62 i0 (.int .u32 0) 1 4 Try.underlying24 HI.out HZ0.out HZ1.out HZ2.out rfl (by decide) _ k (ps.map lv) rfl (PO.out.alloc _) ⟨wr.heap.size, 0, none⟩ 1 1 [lv (x + 65536 * y)] rfl rfl ?qc2 ?qc3 ?qc4 ?qc5 ?qc6 ?_)
      case qc2 => (rw [E3.out]; first | exact cell_one_new wr _ _ | exact fun _ _ h => h)
      case qc3 => first | (intro u hu; rw [List.mem_singleton] at hu; rw [hu]; rfl) | rfl
      case qc4 => unfold maxLen; omega
      case qc5 => omega
      case qc6 => first | omega | (simp; omega)
      intro v2 w2 hown hg _
      have STh := Lib.hid (KS.out v2 w2 _ hown hg)
      clear hown hg
      go_wp2_with fail
      go_roundg (gk - 1)
      case measure => have := HQ.out; omega
      case rel =>
        go_light
        exact ⟨i + 2, k + 1, by have := HQ.out; omega, by go_num, EI, STh.out⟩
    · obtain rfl : n = k := by omega
      have eN : i = N := by rw [ei.out, HN.out]
      have il : ¬ (i : Int) < N := by omega
      obtain ⟨ps, pl, plo, pv, po⟩ := S.ps
      obtain ⟨A2, c2, rfl, L2⟩ := own_lim po plo
      rw [HN.out, List.take_of_length_le (by rw [HL.out]; exact Nat.le_refl _)] at pv
      have PV := Lib.hid pv; have L := Lib.hid L2; have BL := Lib.hid S.bl
      have hc := L2.cap; have ht := L2.top
      clear hq S pl plo pv po L2 HQ lt eN
      go_wp2_with fail
      go_loopg [3] n (fun g s3 wq => g ≤ n ∧ s3 = .slice A2 g c2 ∧ Hid (val (ps.take g) = val ps) ∧ wr = wq)
      case atStart => exact ⟨Nat.le_refl _, rfl, by unfold Hid; rw [List.take_of_length_le (by rw [L.out.len]; exact Nat.le_refl _)], rfl⟩
      case round =>
        obtain ⟨hg, rfl, hvv, rfl⟩ := hrel
        have HT := Lib.hid (L.out.take hg)
        by_cases hz : gk = 0
        · subst hz
          have HV : Hid (limbs (hval hs) = []) := by unfold Hid; rw [← PV.out, ← hvv.out]; simp [val_nil, limbs_zero]
          go_wp2_with fail
          go_ret
          exact ⟨_, 0, _, rfl, by rw [HV.out]; exact Lim.none_ _ _ _ (by omega), BL.out⟩
        · obtain ⟨k, rfl⟩ : ∃ k, gk = k + 1 := ⟨gk - 1, by omega⟩
          obtain ⟨ad, rfl⟩ := L.out.some_ (by omega)
          have hkx : k < ps.length := by rw [L.out.len]; omega
          have hcell := L.out.cell k hkx
          by_cases hx : ps[k] = 0
          · have HV : Hid (val (ps.take k) = val ps) := by
              unfold Hid; rw [← hvv.out, val_take_succ ps k hkx, hx, Nat.mul_zero, Nat.add_zero]
            rw [hx] at hcell
            clear hx hvv HT
            go_wp2_with fail
            go_roundg k
            case measure => omega
            case rel => exact ⟨by omega, rfl, HV, rfl⟩
          · have HV : Hid (limbs (hval hs) = ps.take (k + 1)) := by
              unfold Hid
              rw [← PV.out, ← hvv.out]
              refine limbs_val (L.out.lo.take _) (getLast_ne (x := ps[k]) ?_ hx)
              rw [List.length_take, Nat.min_eq_left (by omega), Nat.add_sub_cancel, List.getElem?_take, if_pos (by omega), List.getElem?_eq_getElem hkx]
            generalize ps[k] = x at *
            have h2 : ((x : Int) == 0) = false := by simpa using hx
            clear hx hvv
            go_wp2_with fail
            go_ret
            exact ⟨_, _, _, rfl, by rw [HV.out]; exact HT.out, BL.out⟩
end Go.Proofs.Ytacobmnghdibaaa
namespace Go.Proofs.Ytacobmnghdibaaa
/-- Limbs whose number needs them all are those of their number. -/
theorem limbs_full {zs : List Nat} (lo : Lo zs) (h : zs = [] ∨ B ^ (zs.length - 1) ≤ val zs) : limbs (val zs) = zs := by
  refine limbs_val lo fun hn z => ?_
  rcases h with h | h
  · exact hn h
  · have e := List.dropLast_concat_getLast hn
    rw [z] at e
    have l := val_lt (xs := zs.dropLast) (fun y hy => lo y (List.dropLast_subset _ hy))
    rw [← e, val_snoc, Nat.mul_zero, Nat.add_zero, List.length_append, List.length_dropLast, List.length_singleton, Nat.add_sub_cancel] at h
    rw [List.length_dropLast] at l
    omega
theorem or_bit (x k : Nat) (hk : k ≤ 1) : bits BinOp.or IntKind.u32 (((x * 2 % 4294967296 : Nat)) : Int) (k : Int) = ((x * 2 % 4294967296 + k : Nat) : Int) := by
  have e := or_low x k 1 (by decide) (by omega)
  rw [Nat.pow_one] at e
  rw [u32_or_nat _ _ (Nat.mod_lt _ (by decide)) (by omega), Nat.or_comm, e, Nat.add_comm]
theorem or_top (x y : Nat) (hx : x < 4294967296) : bits BinOp.or IntKind.u32 (((x / 2 : Nat)) : Int) (((y * 2147483648 % 4294967296 : Nat)) : Int) = ((x / 2 + y % 2 * 2147483648 : Nat) : Int) := by
  have e := or_low y (x / 2) 31 (by decide) (by omega)
  rw [show (2 : Nat) ^ 31 = 2147483648 from rfl] at e
  rw [u32_or_nat _ _ (by omega) (Nat.mod_lt _ (by decide)), e]
  exact congrArg Nat.cast (by omega)
/-- A step of twice. -/
theorem tw_step {P s v x k b : Nat} (h : v + P * k = 2 * s + b) : v + P * (x * 2 % 4294967296 + k) + P * 4294967296 * (x / 2147483648) = 2 * (s + P * x) + b := by
  have e : x * 2 % 4294967296 + 4294967296 * (x / 2147483648) = 2 * x := by omega
  have : P * (x * 2 % 4294967296) + P * 4294967296 * (x / 2147483648) = 2 * (P * x) := by
    rw [Nat.mul_assoc, ← Nat.mul_add, e, Nat.mul_left_comm]
  rw [Nat.mul_add, Nat.mul_add]
  omega
/-- A step of half. -/
theorem hf_step (x V : Nat) : (x + 4294967296 * V) / 2 = x / 2 + V % 2 * 2147483648 + 4294967296 * (V / 2) := by omega
theorem val_mod_two (xs : List Nat) : val xs % 2 = lat xs 0 % 2 := by
  cases xs with
  | nil => rfl
  | cons x r =>
    rw [val_cons, B_eq]
    show _ = x % 2
    omega
theorem bit_down (a p : Nat) : a / 2 ^ p = 2 * (a / 2 ^ (p + 1)) + a / 2 ^ p % 2 := by
  rw [Nat.pow_succ, ← Nat.div_div_eq_div_mul]; omega
/-- A step of a division, bit by bit. -/
theorem dv_step {b q r s k : Nat} (hs : s = b * q + r) (hr : r < b) : (b ≤ 2 * r + k → k ≤ 1 → (2 * s + k) / b = 2 * q + 1 ∧ (2 * s + k) % b = 2 * r + k - b) ∧ (¬ b ≤ 2 * r + k → (2 * s + k) / b = 2 * q + 0 ∧ (2 * s + k) % b = 2 * r + k) := by
  have hb : 0 < b := by omega
  constructor
  · intro h hk
    have e : 2 * s + k = (2 * r + k - b) + b * (2 * q + 1) := by
      rw [hs, Nat.mul_add, Nat.mul_add, Nat.mul_one, Nat.mul_left_comm]; omega
    rw [e, Nat.add_mul_div_left _ _ hb, Nat.add_mul_mod_self_left, Nat.div_eq_of_lt (by omega), Nat.mod_eq_of_lt (by omega)]
    exact ⟨by omega, rfl⟩
  · intro h
    have e : 2 * s + k = (2 * r + k) + b * (2 * q) := by
      rw [hs, Nat.mul_add, Nat.mul_left_comm]; omega
    rw [e, Nat.add_mul_div_left _ _ hb, Nat.add_mul_mod_self_left, Nat.div_eq_of_lt (by omega), Nat.mod_eq_of_lt (by omega)]
    exact ⟨by omega, rfl⟩
/-- Steps of gcd. -/
theorem gcd_both (a b : Nat) (ha : a % 2 = 0) (hb : b % 2 = 0) : Nat.gcd a b = 2 * Nat.gcd (a / 2) (b / 2) := by
  rw [← Nat.gcd_mul_left, show 2 * (a / 2) = a by omega, show 2 * (b / 2) = b by omega]
theorem gcd_left (a b : Nat) (ha : a % 2 = 0) (hb : b % 2 = 1) : Nat.gcd (a / 2) b = Nat.gcd a b := by
  have c : Nat.Coprime 2 b := by
    rw [Nat.coprime_iff_gcd_eq_one, Nat.gcd_rec, hb]; decide
  have := Nat.Coprime.gcd_mul_left_cancel (a / 2) c
  rw [show 2 * (a / 2) = a by omega] at this
  exact this.symm
theorem gcd_right (a b : Nat) (ha : a % 2 = 1) (hb : b % 2 = 0) : Nat.gcd a (b / 2) = Nat.gcd a b := by
  rw [Nat.gcd_comm a, Nat.gcd_comm a, gcd_left b a hb ha]
theorem gcd_less (a b : Nat) (h : b ≤ a) : Nat.gcd (a - b) b = Nat.gcd a b := Nat.gcd_sub_self_left h
end Go.Proofs.Ytacobmnghdibaaa
