/- Blocks of limbs that a call has made, and writes into. The walk of addInto. The walks of sum, Add. The walks of difference, Sub. The walks of product, Mul. The walks of From, Of, divShort. -/
import Derived.Test.YtacobmnghdibaaaJ02
import Derived.Laws.OwnMore
import Derived.OwnWalk
namespace Go.Proofs.Ytacobmnghdibaaa
open Go.RowKit

theorem add_lit (g o i : Nat) : (⟨g, o, none⟩ : Addr).add i = ⟨g, o + i, none⟩ := by
  unfold Addr.add
  by_cases h : i = 0
  · subst h; rfl
  · rw [if_neg h]
theorem block_add (a : Addr) (n : Nat) : (a.add n).block = a.block := by unfold Addr.add; split <;> rfl

/-- Block g is just the limbs xs. -/
structure Row (w : World) (g : Nat) (xs : List Nat) : Prop where
  blk : w.heap[g]? = some (.cells (xs.map lv).toArray 62 (0, 0))
  lo : Lo xs

section
variable {w w' : World} {g : Nat} {xs : List Nat}
theorem Row.lt (h : Row w g xs) : g < w.heap.size := (Array.getElem?_eq_some_iff.1 h.blk).1
theorem Row.cell (h : Row w g xs) (i : Nat) (hi : i < xs.length) : w.cell? ⟨g, i, none⟩ = some (lv xs[i]) := by
  have := h.blk
  simp [World.cell?, this, hi]
theorem Row.cell' (h : Row w g xs) {i x : Nat} (hi : xs[i]? = some x) : w.cell? ⟨g, i, none⟩ = some (lv x) := by
  obtain ⟨a, b⟩ := List.getElem?_eq_some_iff.1 hi
  rw [h.cell i a, b]
theorem Row.melt (h : Row w g xs) (i : Nat) : w.frozen? ⟨g, i, none⟩ = false := by
  have := h.blk
  simp [World.frozen?, this]
theorem Row.drew (h : Row w g xs) : Row w.drew g xs := ⟨h.blk, h.lo⟩
theorem Row.drewN (h : Row w g xs) (n : Nat) : Row (w.drewN n) g xs := ⟨h.blk, h.lo⟩
theorem Row.alloc (h : Row w g xs) (o : Obj) : Row (w.alloc o) g xs := ⟨(Below.heap_alloc w o g h.lt).trans h.blk, h.lo⟩
theorem Row.next (h : Row w g xs) (hb : Below w.heap.size w w') : Row w' g xs := ⟨(hb.block g h.lt).trans h.blk, h.lo⟩
theorem Row.far (h : Row w g xs) {p : Addr} (hp : g ≠ p.block) (u : Value) : Row (w.setCell p u) g xs := ⟨(Below.heap_setCell w p u g hp).trans h.blk, h.lo⟩
theorem Row.set_ (h : Row w g xs) (i v : Nat) (hv : v < 4294967296) : Row (w.setCell ⟨g, i, none⟩ (lv v)) g (xs.set i v) := by
  refine ⟨?_, fun y hy => ?_⟩
  · have := h.blk
    simp [World.setCell, Array.getElem?_modify, this]
  · rcases List.mem_or_eq_of_mem_set hy with k | k
    · exact h.lo y k
    · rw [k]; exact hv
theorem Row.new (w : World) (xs : List Nat) (h : Lo xs) : Row (w.alloc (.cells (xs.map lv).toArray 62)) w.heap.size xs := ⟨heap_alloc_new w _, h⟩
/-- A piece of a block is a slice. -/
theorem Row.lim (h : Row w g xs) {o n c : Nat} (ho : o + n ≤ xs.length) (hc : n ≤ c) (ht : c ≤ 9223372036854775807) : Lim w (some ⟨g, o, none⟩) n c ((xs.drop o).take n) := by
  refine ⟨by simp; omega, hc, ht, fun j hj => ⟨_, rfl, ?_⟩, (h.lo.drop o).take n⟩
  rw [add_lit]
  have hj' : o + j < xs.length := by simp at hj; omega
  rw [h.cell _ hj']
  simp
end

/-- But for block g all is as it was. -/
structure Turn (w w' : World) (g : Nat) : Prop where
  os : w'.os = w.os
  tape : w'.tape = w.tape
  output : w'.output = w.output
  size : w'.heap.size = w.heap.size
  block : ∀ k, k ≠ g → w'.heap[k]? = w.heap[k]?
section
variable {w w' w'' : World} {g : Nat}
theorem Turn.refl (w : World) (g : Nat) : Turn w w g := ⟨rfl, rfl, rfl, rfl, fun _ _ => rfl⟩
theorem Turn.trans (h : Turn w w' g) (k : Turn w' w'' g) : Turn w w'' g := ⟨k.os.trans h.os, k.tape.trans h.tape, k.output.trans h.output, k.size.trans h.size, fun i hi => (k.block i hi).trans (h.block i hi)⟩
theorem Turn.drew (h : Turn w w' g) : Turn w w'.drew g := ⟨h.os, h.tape, h.output, h.size, h.block⟩
theorem Turn.drewN (h : Turn w w' g) (n : Nat) : Turn w (w'.drewN n) g := ⟨h.os, h.tape, h.output, h.size, h.block⟩
theorem Turn.setCell (h : Turn w w' g) (i : Nat) (u : Value) : Turn w (w'.setCell ⟨g, i, none⟩ u) g :=
  h.trans ⟨rfl, rfl, rfl, by simp [World.setCell], fun k hk => Below.heap_setCell _ _ _ _ hk⟩
theorem Turn.below (h : Turn w w' g) {B : Nat} (hg : B ≤ g) : Below B w w' := ⟨h.os, h.tape, h.output, Nat.le_of_eq h.size.symm, fun k hk => h.block k (by omega)⟩
theorem Turn.lim (h : Turn w w' g) {A : Option Addr} {n c : Nat} {xs : List Nat} (l : Lim w A n c xs) (hne : ∀ ad, A = some ad → ad.block ≠ g) : Lim w' A n c xs :=
  ⟨l.len, l.cap, l.top, fun j hj => by
    obtain ⟨ad, e, hc⟩ := l.at_ j hj
    refine ⟨ad, e, ?_⟩
    rw [World.cell?_of_block (w := w) (h.block _ (by rw [block_add]; exact hne ad e))]
    exact hc, l.lo⟩
theorem Turn.row (h : Turn w w' g) {g' : Nat} {xs : List Nat} (l : Row w g' xs) (hne : g' ≠ g) : Row w' g' xs := ⟨(h.block _ hne).trans l.blk, l.lo⟩
end
/-- What a slice lies in was there. -/
theorem Lim.ne {w : World} {A : Option Addr} {n c : Nat} {xs : List Nat} (l : Lim w A n c xs) (hn : 0 < n) {g : Nat} (hg : w.heap.size ≤ g) : ∀ ad, A = some ad → ad.block ≠ g := by
  intro ad e
  obtain ⟨ad', e', hc⟩ := l.at_ 0 (by have := l.len; omega)
  have := cell_lt hc
  rw [block_add] at this
  rw [e] at e'
  injection e' with e'
  subst e'
  omega

theorem lo_zeros (n : Nat) : Lo (List.replicate n 0) := fun y hy => by rw [(List.mem_replicate.1 hy).2]; decide
/-- A slice that was there lies in no new block. -/
theorem Lim.new_ne {w : World} {A : Option Addr} {n c : Nat} {xs : List Nat} (l : Lim w A n c xs) : ∀ ad, A = some ad → 0 < n → ad.block ≠ w.heap.size := fun ad e hn => l.ne hn (Nat.le_refl _) ad e
/-- Limbs that are not there lie nowhere. -/
theorem turn_lim {w w' : World} {g : Nat} (t : Turn w w' g) {A : Option Addr} {n c : Nat} {xs : List Nat} (l : Lim w A n c xs) (hne : ∀ ad, A = some ad → 0 < n → ad.block ≠ g) : Lim w' A n c xs := by
  by_cases hn : 0 < n
  · exact t.lim l (fun ad e => hne ad e hn)
  · have h0 := l.len
    exact ⟨l.len, l.cap, l.top, fun j hj => by omega, l.lo⟩

/-- The elements' type. -/
theorem info_u32 : (Try.prog.info? 62).map (fun i => (i.zero, i.size, i.bytes)) = some (some (.int .u32 0), 1, 4) := by kernel_rfl
/-- A block of noughts. -/
@[irreducible] def zrow (n : Nat) : Obj := .cells ((List.replicate n 0).map lv).toArray 62
theorem Row.zeros (w : World) (n : Nat) : Row (w.alloc (zrow n)) w.heap.size (List.replicate n 0) := by unfold zrow; exact Row.new w _ (lo_zeros n)
/-- A new block of noughts. -/
theorem make_u32 (n : Nat) (hn : n ≤ 1000000000000) (w : World) : (Instr.makeSlice 24 (.int .i64 (n : Int)) (.int .i64 (n : Int))).run Try.prog w =
    .ok (.slice (some ⟨w.heap.size, 0, none⟩) n n) (w.alloc (zrow n)) := by
  unfold zrow
  obtain ⟨i, hi, hz, hs, hb⟩ := info_parts info_u32
  have hbytes : (i.bytes : Int) * (n : Int) ≤ 281474976710656 := by rw [hb]; omega
  have hr := run_make (P := Try.prog) w 24 62 i (.int .u32 0) Try.underlying24 hi hz .i64 .i64 n n (by omega) (by omega) hbytes (by omega)
  simp only [Int.toNat_natCast] at hr
  have e : madeCells (Value.int IntKind.u32 0).cells n = ((List.replicate n 0).map lv).toArray := by
    apply Array.ext'
    rw [show (Value.int IntKind.u32 0).cells = #[.int .u32 0] from rfl, toList_madeCells_one]
    simp
  rw [hr, hs, Nat.mul_one, e]

/-- What a loop has written, limb by limb. -/
theorem set_mid (p ss r : List Nat) (v o i : Nat) (ho : p.length = o) (hs : ss.length = i) (x : Nat) : (p ++ ss ++ (x :: r)).set (o + i) v = p ++ (ss ++ [v]) ++ r := by
  subst ho hs
  rw [List.append_assoc, List.set_append_right _ _ (by omega), Nat.add_sub_cancel_left, List.set_append_right _ _ (by omega), Nat.sub_self, List.set_cons_zero]
  simp
theorem set_part (zs ss : List Nat) (v o i : Nat) (hz : o + i < zs.length) (hs : ss.length = i) : (zs.take o ++ ss ++ zs.drop (o + i)).set (o + i) v = zs.take o ++ (ss ++ [v]) ++ zs.drop (o + (i + 1)) := by
  rw [List.drop_eq_getElem_cons hz, set_mid _ _ _ _ o i (by simp; omega) hs]
  rfl
theorem part_len (zs ss : List Nat) (o i : Nat) (hz : o + i ≤ zs.length) (hs : ss.length = i) : (zs.take o ++ ss ++ zs.drop (o + i)).length = zs.length := by simp; omega
theorem part_at (zs ss : List Nat) (o i : Nat) (hz : o + i < zs.length) (hs : ss.length = i) : (zs.take o ++ ss ++ zs.drop (o + i))[o + i]? = some zs[o + i] := by
  rw [List.getElem?_append_right (by simp; omega), List.length_append, hs, List.length_take, Nat.min_eq_left (by omega), Nat.sub_self, List.getElem?_drop, Nat.add_zero, List.getElem?_eq_getElem hz]
end Go.Proofs.Ytacobmnghdibaaa
namespace Go.Proofs.Ytacobmnghdibaaa
open Go.RowKit

/-- The limbs of a slice can be read, each, while those ahead of it are written over at o in block g. -/
def Src (w : World) (g o : Nat) (zs : List Nat) (A : Option Addr) (xs : List Nat) : Prop :=
  ∀ (i : Nat) (h : i < xs.length) (ss : List Nat) (W : World), ss.length = i → Turn w W g → Row W g (zs.take o ++ ss ++ zs.drop (o + i)) → ∃ ad, A = some ad ∧ W.cell? (ad.add i) = some (lv xs[i])
theorem Src.far {w : World} {g o : Nat} {zs : List Nat} {A : Option Addr} {n c : Nat} {xs : List Nat} (l : Lim w A n c xs) (hne : ∀ ad, A = some ad → ad.block ≠ g) : Src w g o zs A xs :=
  fun i h _ _ _ t _ => (t.lim l hne).at_ i h
theorem Src.same {w : World} {g o n : Nat} {zs : List Nat} (hz : o + n ≤ zs.length) : Src w g o zs (some ⟨g, o, none⟩) ((zs.drop o).take n) := by
  intro i h ss W hs _ r
  refine ⟨_, rfl, ?_⟩
  rw [add_lit]
  have h' : o + i < zs.length := by simp at h; omega
  rw [r.cell' (part_at zs ss o i h' hs)]
  simp

/-- What is in the loops of addInto. -/
structure Sum (w : World) (g o : Nat) (zs xs ys : List Nat) (i k : Nat) (wr : World) : Prop where
  ss : ∃ ss, ss.length = i ∧ Lo ss ∧ val ss + B ^ i * k = val (xs.take i) + val (ys.take i) ∧ Row wr g (zs.take o ++ ss ++ zs.drop (o + i))
  k1 : k ≤ 1
  t : Turn w wr g

theorem Sum.drew {w : World} {g o : Nat} {zs xs ys : List Nat} {i k : Nat} {wr : World} (h : Sum w g o zs xs ys i k wr) : Sum w g o zs xs ys i k wr.drew := by
  obtain ⟨ss, a, b, c, r⟩ := h.ss
  exact ⟨⟨ss, a, b, c, r.drew⟩, h.k1, h.t.drew⟩
theorem u32_mod (x y k : Nat) : Value.int IntKind.u32 (((x : Int) + (y : Int) + (k : Int)) % 4294967296) = lv ((x + y + k) % 4294967296) := congrArg (Value.int .u32) (by omega)
theorem u32_mod2 (x k : Nat) : Value.int IntKind.u32 (((x : Int) + (k : Int)) % 4294967296) = lv ((x + k) % 4294967296) := congrArg (Value.int .u32) (by omega)
theorem sum_step {P s x y k v c : Nat} (h : v + P * k = s) (e : x + y + k = c) : v + P * (c % 4294967296) + P * 4294967296 * (c / 4294967296) = s + P * x + P * y := by
  have e2 : c = c % 4294967296 + 4294967296 * (c / 4294967296) := by omega
  have : P * c = P * (c % 4294967296) + P * 4294967296 * (c / 4294967296) := by
    conv => lhs; rw [e2, Nat.mul_add, ← Nat.mul_assoc]
  rw [Nat.add_assoc, ← this, ← e, ← h, Nat.mul_add, Nat.mul_add]
  omega
theorem Sum.step {w : World} {g o : Nat} {zs xs ys : List Nat} {i k : Nat} {wr : World} (h : Sum w g o zs xs ys i k wr) (x y : Nat) (hx : x < 4294967296) (hy : y < 4294967296)
    (ex : val (xs.take (i + 1)) = val (xs.take i) + B ^ i * x) (ey : val (ys.take (i + 1)) = val (ys.take i) + B ^ i * y) (hz : o + i < zs.length) :
    Sum w g o zs xs ys (i + 1) ((x + y + k) / 4294967296) (wr.setCell ⟨g, o + i, none⟩ (lv ((x + y + k) % 4294967296))) := by
  obtain ⟨ss, hl, lo, hv, r⟩ := h.ss
  have hk := h.k1
  refine ⟨⟨ss ++ [(x + y + k) % 4294967296], by simp [hl], lo.append (.cons (Nat.mod_lt _ (by decide)) .nil), ?_, ?_⟩, by omega, h.t.setCell _ _⟩
  · rw [val_snoc, hl, ex, ey, Nat.pow_succ]
    have := sum_step (c := x + y + k) hv (x := x) (y := y) rfl
    rw [← B_eq] at this
    rw [B_eq] at *
    omega
  · have := r.set_ (o + i) ((x + y + k) % 4294967296) (Nat.mod_lt _ (by decide))
    rwa [set_part zs ss _ o i hz hl] at this

set_option maxHeartbeats 2000000 in
set_option maxRecDepth 100000 in
theorem addInto_any {A A' : Option Addr} {g o ns cs n c n' c' : Nat} {zs xs ys : List Nat} {w : World} (hr : Row w g zs) (hx : Src w g o zs A xs) (lx : Lo xs) (ex : xs.length = n) (hy : Lim w A' n' c' ys)
    (hz : o + n ≤ zs.length) (hs : n ≤ ns) (hn : n' ≤ n) (hm : n ≤ 1000) (hne : ∀ ad, A' = some ad → 0 < n' → ad.block ≠ g) :
    Calls Try.prog 100 #[.slice (some ⟨g, o, none⟩) ns cs, .slice A n c, .slice A' n' c'] w fun e w' => ∃ k, e = .returned (lv k) ∧ Sum w g o zs xs ys n k w' := by
  have S0 : Sum w g o zs xs ys 0 0 w := ⟨⟨[], rfl, .nil, by simp [val_nil], by simpa using hr⟩, by omega, Turn.refl _ _⟩
  have HY := Lib.hid hy; have HX := Lib.hid hx; have EX := Lib.hid ex; have LX := Lib.hid lx; have HNE := Lib.hid hne
  have ey := hy.len
  have EY := Lib.hid ey
  clear hr hx lx ex hy hne ey
  go_enter Try.func100, Try.ntmps100
  go_wp2_with fail
  go_loopg [7, 12] n' (fun q s7 s12 wr => ∃ i k, i + q = n' ∧ s12 = .int .i64 (i : Int) ∧ s7 = lv k ∧ Sum w g o zs xs ys i k wr)
  case atStart => exact ⟨0, 0, by omega, rfl, rfl, S0⟩
  case round =>
    clear S0
    obtain ⟨i, k, hq, rfl, rfl, S⟩ := hrel
    have HQ := Lib.hid hq
    by_cases lt : i < n'
    · clear hq
      have il : (i : Int) < n' := by omega
      have il2 : (i : Int) < n := by omega
      have il3 : (i : Int) < ns := by omega
      have il0 : (0 : Int) ≤ i := by omega
      have i1 : i < xs.length := by rw [EX.out]; omega
      have i2 : i < ys.length := by rw [EY.out]; omega
      obtain ⟨ss, hl, lo, hv, r⟩ := S.ss
      obtain ⟨ad, rfl, c1⟩ := HX.out i i1 ss wr hl S.t r
      obtain ⟨ad', rfl, c2⟩ := (turn_lim S.t HY.out HNE.out).at_ i i2
      have c3 := r.cell' (part_at zs ss o i (by omega) hl)
      have f3 := r.melt (o + i)
      have bx := LX.out.at_ i i1
      have bY := HY.out.lo.at_ i i2
      have hk := S.k1
      have ST := Lib.hid (S.step xs[i] ys[i] bx bY (val_take_succ xs i i1) (val_take_succ ys i i2) (by omega))
      generalize xs[i] = x at *
      generalize ys[i] = y at *
      generalize zs[o + i]'(by omega) = z at *
      clear ss hl lo hv r S
      go_wp2_with fail
      go_region_with (first | (go_at_call 101; refine (add32 _ _ _ (by assumption) (by assumption) (by assumption) _).mono ?_; rintro e w1 ⟨rfl, rfl⟩))
      all_goals go_wp2_with fail
      all_goals go_roundg (gk - 1)
      case measure => have := HQ.out; omega
      case measure => have := HQ.out; omega
      all_goals go_light
      all_goals refine ⟨i + 1, _, by have := HQ.out; omega, by go_num, rfl, ?_⟩
      all_goals rw [u32_mod]
      all_goals exact ST.out.drew
    · obtain rfl : n' = i := by omega
      clear lt hq HQ
      have il : ¬ (n' : Int) < n' := by omega
      go_wp2_with fail
      go_loopg [7, 9] (n - n') (fun q s7 s9 wr => ∃ i k, i + q = n ∧ n' ≤ i ∧ s9 = .int .i64 (i : Int) ∧ s7 = lv k ∧ Sum w g o zs xs ys i k wr)
      case atStart => exact ⟨n', k, by omega, Nat.le_refl _, rfl, rfl, S⟩
      case round =>
        clear S
        obtain ⟨i, k, hq, hi, rfl, rfl, S⟩ := hrel
        have HQ := Lib.hid hq
        by_cases lt : i < n
        · clear hq il
          have il2 : (i : Int) < n := by omega
          have il3 : (i : Int) < ns := by omega
          have il0 : (0 : Int) ≤ i := by omega
          have i1 : i < xs.length := by rw [EX.out]; omega
          obtain ⟨ss, hl, lo, hv, r⟩ := S.ss
          obtain ⟨ad, rfl, c1⟩ := HX.out i i1 ss wr hl S.t r
          have c3 := r.cell' (part_at zs ss o i (by omega) hl)
          have f3 := r.melt (o + i)
          have bx := LX.out.at_ i i1
          have hk := S.k1
          have ST := Lib.hid (S.step xs[i] 0 bx (by omega) (val_take_succ xs i i1) (by rw [List.take_of_length_le (by rw [EY.out]; omega), List.take_of_length_le (by rw [EY.out]; omega), Nat.mul_zero, Nat.add_zero]) (by omega))
          generalize xs[i] = x at *
          generalize zs[o + i]'(by omega) = z at *
          clear ss hl lo hv r S
          have KA := Lib.hid (add32 x 0 k bx (by omega) hk)
          go_wp2_with fail
          refine (KA.out _).mono ?_
          rintro e w1 ⟨rfl, rfl⟩
          go_wp2_with fail
          go_roundg (gk - 1)
          case measure => have := HQ.out; omega
          case rel =>
            go_light
            have T := ST.out
            rw [Nat.add_zero] at T
            refine ⟨i + 1, _, by have := HQ.out; omega, by omega, by go_num, rfl, ?_⟩
            rw [u32_mod2]
            exact T
        · obtain rfl : n = i := by omega
          have il2 : ¬ (n : Int) < n := by omega
          go_wp2_with fail
          go_ret
          exact ⟨k, rfl, S⟩
end Go.Proofs.Ytacobmnghdibaaa
namespace Go.Proofs.Ytacobmnghdibaaa
open Go.RowKit

theorem Src.old {w : World} {o : Nat} {zs : List Nat} {A : Option Addr} {n c : Nat} {xs : List Nat} (l : Lim w A n c xs) (ob : Obj) : Src (w.alloc ob) w.heap.size o zs A xs := by
  by_cases hn : 0 < n
  · exact Src.far (l.alloc ob) (fun ad e => l.new_ne ad e hn)
  · intro i h
    have := l.len
    omega
theorem sum_done {w w1 : World} {g n k : Nat} {xs ys : List Nat} (h : Sum w g 0 (List.replicate (n + 1) 0) xs ys n k w1) (hx : xs.length = n) (hy : ys.length ≤ n) :
    ∃ ss, ss.length = n + 1 ∧ val ss = val xs + val ys ∧ Row (w1.setCell ⟨g, n, none⟩ (lv k)) g ss := by
  obtain ⟨ss, hl, lo, hv, r⟩ := h.ss
  rw [List.take_of_length_le (by omega), List.take_of_length_le (by omega)] at hv
  have hk := h.k1
  have e : (List.replicate (n + 1) 0).take 0 ++ ss ++ (List.replicate (n + 1) 0).drop (0 + n) = ss ++ [0] := by simp
  rw [e] at r
  refine ⟨ss ++ [k], by simp [hl], by rw [val_snoc, hl, hv], ?_⟩
  have := r.set_ n k (by omega)
  rwa [List.set_append_right _ _ (by omega), hl, Nat.sub_self, List.set_cons_zero] at this

theorem RetN.lim {r : Nat} {w : World} {e : Ending} {w' : World} (h : RetN r w e w') : ∃ A n c, e = .returned (.slice A n c) ∧ Lim w' A n c (limbs r) ∧ Below w.heap.size w w' := h
/-- Refused: what is no natural. -/
def NoTwo (xs ys : List Nat) : Prop := ¬ (Nt xs ∧ Nt ys)
theorem rights_no {A A' : Option Addr} {n c n' c' : Nat} {xs ys : List Nat} {w : World} (ha : Lim w A n c xs) (hb : Lim w A' n' c' ys) (h : NoTwo xs ys) :
    (∃ _ : Nt xs, (∀ w' : World, w = w' → Calls Try.prog 33 #[.slice A n c] w' fun e w'' => e = .returned (.bool true) ∧ w' = w'') ∧ (∀ w' : World, w = w' → Calls Try.prog 33 #[.slice A' n' c'] w' fun e w'' => e = .returned (.bool false) ∧ w' = w'')) ∨
    (∀ w' : World, w = w' → Calls Try.prog 33 #[.slice A n c] w' fun e w'' => e = .returned (.bool false) ∧ w' = w'') := by
  by_cases ka : Nt xs
  · refine Or.inl ⟨ka, ?_, ?_⟩
    · rintro w' rfl
      exact right_yes (ka.eq ha.lo ▸ ha) (by unfold ln; rw [← ka.eq ha.lo]; exact ka.1)
    · rintro w' rfl
      exact right_no hb (fun x => h ⟨ka, x⟩)
  · refine Or.inr ?_
    rintro w' rfl
    exact right_no ha ka
end Go.Proofs.Ytacobmnghdibaaa
namespace Go.Proofs.Ytacobmnghdibaaa
open Go.RowKit

/-- What is in the loops of difference. -/
structure Dif (w : World) (g n : Nat) (xs ys : List Nat) (i k : Nat) (wr : World) : Prop where
  ss : ∃ ss, ss.length = i ∧ Lo ss ∧ val (xs.take i) + B ^ i * k = val ss + val (ys.take i) ∧ Row wr g (ss ++ (List.replicate n 0).drop i)
  k1 : k ≤ 1
  t : Turn w wr g
theorem Dif.drew {w : World} {g n : Nat} {xs ys : List Nat} {i k : Nat} {wr : World} (h : Dif w g n xs ys i k wr) : Dif w g n xs ys i k wr.drew := by
  obtain ⟨ss, a, b, c, r⟩ := h.ss
  exact ⟨⟨ss, a, b, c, r.drew⟩, h.k1, h.t.drew⟩
theorem dif_limb (x y k : Nat) (hx : x < 4294967296) (hy : y < 4294967296) (hk : k ≤ 1) : x + 4294967296 * bor x (y + k) = (x + 8589934592 - y - k) % 4294967296 + y + k := by
  by_cases h : x < y + k
  · rw [bor_yes h]; omega
  · rw [bor_no h]; omega
theorem dif_step {P s t v x y k b d : Nat} (h : s + P * k = v + t) (e : x + 4294967296 * b = d + y + k) : s + P * x + P * 4294967296 * b = v + P * d + (t + P * y) := by
  have : P * x + P * 4294967296 * b = P * d + P * y + P * k := by
    rw [Nat.mul_assoc, ← Nat.mul_add, e, Nat.mul_add, Nat.mul_add]
  omega
theorem Dif.step {w : World} {g n : Nat} {xs ys : List Nat} {i k : Nat} {wr : World} (h : Dif w g n xs ys i k wr) (x y : Nat) (hx : x < 4294967296) (hy : y < 4294967296)
    (ex : val (xs.take (i + 1)) = val (xs.take i) + B ^ i * x) (ey : val (ys.take (i + 1)) = val (ys.take i) + B ^ i * y) (hz : i < n) :
    Dif w g n xs ys (i + 1) (bor x (y + k)) (wr.setCell ⟨g, i, none⟩ (lv ((x + 8589934592 - y - k) % 4294967296))) := by
  obtain ⟨ss, hl, lo, hv, r⟩ := h.ss
  have hk := h.k1
  refine ⟨⟨ss ++ [(x + 8589934592 - y - k) % 4294967296], by simp [hl], lo.append (.cons (Nat.mod_lt _ (by decide)) .nil), ?_, ?_⟩, bor_le _ _, h.t.setCell _ _⟩
  · rw [val_snoc, hl, ex, ey, Nat.pow_succ]
    have := dif_step hv (dif_limb x y k hx hy hk)
    rw [B_eq] at *
    omega
  · have := r.set_ i ((x + 8589934592 - y - k) % 4294967296) (Nat.mod_lt _ (by decide))
    have e := set_part (List.replicate n 0) ss ((x + 8589934592 - y - k) % 4294967296) 0 i (by simp; omega) hl
    simp only [List.take_zero, List.nil_append, Nat.zero_add] at e
    rwa [e] at this
theorem Dif.cell {w : World} {g n : Nat} {xs ys : List Nat} {i k : Nat} {wr : World} (h : Dif w g n xs ys i k wr) (hi : i < n) : wr.cell? ⟨g, i, none⟩ = some (lv 0) ∧ wr.frozen? ⟨g, i, none⟩ = false := by
  obtain ⟨ss, hl, lo, hv, r⟩ := h.ss
  refine ⟨?_, r.melt _⟩
  have := part_at (List.replicate n 0) ss 0 i (by simp; omega) hl
  simp only [List.take_zero, List.nil_append, Nat.zero_add, List.getElem_replicate] at this
  exact r.cell' this
theorem Dif.done {w : World} {g n : Nat} {xs ys : List Nat} {k : Nat} {wr : World} (h : Dif w g n xs ys n k wr) (hx : xs.length = n) (hy : ys.length ≤ n) (hle : val ys ≤ val xs) :
    ∃ ss, ss.length = n ∧ val ss = val xs - val ys ∧ Row wr g ss := by
  obtain ⟨ss, hl, lo, hv, r⟩ := h.ss
  rw [List.take_of_length_le (by omega), List.take_of_length_le (by omega)] at hv
  have e : ss ++ (List.replicate n 0).drop n = ss := by simp
  rw [e] at r
  refine ⟨ss, hl, ?_, r⟩
  have l := val_lt lo
  rw [hl] at l
  have hk := h.k1
  have : k = 0 ∨ k = 1 := by omega
  rcases this with rfl | rfl
  · omega
  · rw [Nat.mul_one] at hv; omega
theorem u32_sub (x y k : Nat) (hx : x < 4294967296) (hy : y < 4294967296) (hk : k ≤ 1) : ((((x + 8589934592 - y - k) % 4294967296 : Nat)) : Int) = ((x : Int) + 8589934592 - y - k) % 4294967296 := by omega

end Go.Proofs.Ytacobmnghdibaaa
namespace Go.Proofs.Ytacobmnghdibaaa
open Go.RowKit

theorem val_set (ps : List Nat) (k v : Nat) (h : k < ps.length) : val (ps.set k v) + B ^ k * ps[k] = val ps + B ^ k * v := by
  induction ps generalizing k with
  | nil => simp at h
  | cons x r ih =>
    cases k with
    | zero => simp [val_cons]; omega
    | succ k =>
      have := ih k (by simpa using h)
      simp only [List.set_cons_succ, val_cons, List.getElem_cons_succ, Nat.pow_succ]
      have e : B * (val (r.set k v) + B ^ k * r[k]'(by simpa using h)) = B * (val r + B ^ k * v) := by rw [this]
      rw [Nat.mul_add, Nat.mul_add, ← Nat.mul_assoc, ← Nat.mul_assoc, Nat.mul_comm B (B ^ k)] at e
      omega
theorem cast_div (x y p k : Nat) : ((x : Int) * (y : Int) + (p : Int) + (k : Int)) / 4294967296 = (((x * y + p + k) / 4294967296 : Nat) : Int) := by
  rw [← Int.natCast_mul]; generalize x * y = q; omega
theorem cast_mod (x y p k : Nat) : ((x : Int) * (y : Int) + (p : Int) + (k : Int)) % 4294967296 = (((x * y + p + k) % 4294967296 : Nat) : Int) := by
  rw [← Int.natCast_mul]; generalize x * y = q; omega
/-- What is in the loops of product. -/
structure Prd (w : World) (g N : Nat) (xs ys : List Nat) (x i j k : Nat) (wr : World) : Prop where
  ps : ∃ ps, ps.length = N ∧ val ps + B ^ (i + j) * k = val (xs.take i) * val ys + B ^ i * x * val (ys.take j) ∧ (∀ t, i + ys.length ≤ t → t < N → ps[t]? = some 0) ∧ Row wr g ps
  kb : k < 4294967296
  t : Turn w wr g
theorem prd_step {P V S p x y k T v : Nat} (h : V + P * k = S) (e : v + P * p = V + P * (T % 4294967296)) (ht : T = x * y + p + k) : v + P * 4294967296 * (T / 4294967296) = S + P * (x * y) := by
  have e2 : T = T % 4294967296 + 4294967296 * (T / 4294967296) := by omega
  have e3 : P * T = P * (T % 4294967296) + P * 4294967296 * (T / 4294967296) := by
    conv => lhs; rw [e2, Nat.mul_add, ← Nat.mul_assoc]
  have e4 : P * T = P * (x * y) + P * p + P * k := by rw [ht, Nat.mul_add, Nat.mul_add]
  omega
theorem Prd.step {w : World} {g N : Nat} {xs ys : List Nat} {x i j k : Nat} {wr : World} (h : Prd w g N xs ys x i j k wr) (y : Nat) (hx : x < 4294967296) (hy : y < 4294967296) (hj : j < ys.length)
    (ey : val (ys.take (j + 1)) = val (ys.take j) + B ^ j * y) (hN : i + ys.length < N) :
    ∃ p, p < 4294967296 ∧ wr.cell? ⟨g, i + j, none⟩ = some (lv p) ∧ wr.frozen? ⟨g, i + j, none⟩ = false ∧
      Prd w g N xs ys x i (j + 1) ((x * y + p + k) / 4294967296) (wr.setCell ⟨g, i + j, none⟩ (lv ((x * y + p + k) % 4294967296))) := by
  obtain ⟨ps, hl, hv, hz, r⟩ := h.ps
  have hk := h.kb
  have hij : i + j < ps.length := by omega
  have hp := r.lo.at_ _ hij
  have hxy : x * y ≤ 4294967295 * 4294967295 := Nat.mul_le_mul (by omega) (by omega)
  refine ⟨ps[i + j], hp, r.cell _ hij, r.melt _, ⟨ps.set (i + j) ((x * y + ps[i + j] + k) % 4294967296), by simp [hl], ?_, ?_, r.set_ _ _ (Nat.mod_lt _ (by decide))⟩, ?_, h.t.setCell _ _⟩
  · have e := val_set ps (i + j) ((x * y + ps[i + j] + k) % 4294967296) hij
    have := prd_step hv e rfl
    rw [← Nat.add_assoc, Nat.pow_succ, ey]
    rw [show B ^ (i + j) * B = B ^ (i + j) * 4294967296 by rw [B_eq]]
    rw [this, Nat.mul_add, Nat.pow_add, Nat.add_assoc]
    congr 1
    congr 1
    rw [Nat.mul_assoc, Nat.mul_assoc, Nat.mul_left_comm x, ]
  · intro t h1 h2
    rw [List.getElem?_set_ne (by omega)]
    exact hz t h1 h2
  · generalize x * y = q at *
    omega
theorem Prd.turn {w : World} {g N : Nat} {xs ys : List Nat} {x i k : Nat} {wr : World} (h : Prd w g N xs ys x i ys.length k wr) (hi : i < xs.length) (hx : xs[i] = x) (hN : i + ys.length < N) (x' : Nat) :
    wr.cell? ⟨g, i + ys.length, none⟩ = some (lv 0) ∧ wr.frozen? ⟨g, i + ys.length, none⟩ = false ∧ Prd w g N xs ys x' (i + 1) 0 0 (wr.setCell ⟨g, i + ys.length, none⟩ (lv k)) := by
  obtain ⟨ps, hl, hv, hz, r⟩ := h.ps
  have hk := h.kb
  have h0 := hz (i + ys.length) (Nat.le_refl _) hN
  have hij : i + ys.length < ps.length := by omega
  have hp : ps[i + ys.length] = 0 := (List.getElem?_eq_some_iff.1 h0).2
  refine ⟨r.cell' h0, r.melt _, ⟨ps.set (i + ys.length) k, by simp [hl], ?_, ?_, r.set_ _ _ hk⟩, by omega, h.t.setCell _ _⟩
  · have e := val_set ps (i + ys.length) k hij
    rw [hp, Nat.mul_zero, Nat.add_zero] at e
    rw [e, hv, List.take_of_length_le (Nat.le_refl _), val_take_succ xs i hi, hx, Nat.add_mul, Nat.mul_zero, Nat.add_zero, List.take_zero, val_nil, Nat.mul_zero, Nat.add_zero]
  · intro t h1 h2
    rw [List.getElem?_set_ne (by omega)]
    exact hz t (by omega) h2

end Go.Proofs.Ytacobmnghdibaaa
namespace Go.Proofs.Ytacobmnghdibaaa
open Go.RowKit
set_option linter.unusedVariables false
set_option linter.unusedSimpArgs false

theorem Row.new_of (w : World) (xs : List Nat) (vs : Array Value) (h : Lo xs) (e : vs = (xs.map lv).toArray) : Row (w.alloc (.cells vs 62)) w.heap.size xs := by
  subst e; exact Row.new w xs h
theorem four_val (h l : Nat) : val [l % 4294967296, l / 4294967296, h % 4294967296, h / 4294967296] = h * 18446744073709551616 + l := by
  rw [val_cons, val_cons, val_cons, val_cons, val_nil, B_eq]; omega

set_option maxHeartbeats 1000000 in
set_option maxRecDepth 100000 in
theorem from_any (h l : Nat) (hh : h < 18446744073709551616) (hl : l < 18446744073709551616) (w : World) : Calls Try.prog 87 #[.agg #[.int .u64 h, .int .u64 l]] w fun e w' => RetN (h * 18446744073709551616 + l) w e w' := by
  have R : Hid (∀ W : World, Row (W.alloc (.cells #[.int .u32 ((l : Int) % 4294967296), .int .u32 ((l : Int) / 4294967296), .int .u32 ((h : Int) % 4294967296), .int .u32 ((h : Int) / 4294967296)] 62)) W.heap.size [l % 4294967296, l / 4294967296, h % 4294967296, h / 4294967296]) := by
    intro W
    refine Row.new_of W _ _ (.cons ?_ (.cons ?_ (.cons ?_ (.cons ?_ .nil)))) ?_
    · omega
    · omega
    · omega
    · omega
    · simp
  have EV := Lib.hid (four_val h l)
  go_enter Try.func87, Try.ntmps87
  go_wp2_with fail
  have R1 := R.out (w.alloc (.cells #[.int .u64 h, .int .u64 l] 28))
  have hb : Below w.heap.size w ((w.alloc (.cells #[.int .u64 h, .int .u64 l] 28)).alloc (.cells #[.int .u32 ((l : Int) % 4294967296), .int .u32 ((l : Int) / 4294967296), .int .u32 ((h : Int) % 4294967296), .int .u32 ((h : Int) / 4294967296)] 62)) := ((Below.refl _ _).alloc (Nat.le_refl _) _).alloc (by simp) _
  have TR := trim_any (R1.lim (o := 0) (n := 4) (c := 4) (by simp) (Nat.le_refl _) (by omega))
  rw [List.drop_zero, List.take_of_length_le (by simp), EV.out] at TR
  simp only [World.size_alloc] at TR
  refine TR.mono ?_
  rintro e w1 ⟨A1, n1, c1, rfl, L1, rfl⟩
  go_wp2_with fail
  go_ret
  exact ⟨_, _, _, rfl, L1, hb⟩
set_option maxRecDepth 100000 in
theorem of_any (n : Nat) (hn : n < 18446744073709551616) (w : World) : Calls Try.prog 63 #[.int .u64 n] w fun e w' => RetN n w e w' := by
  have K := from_any 0 n (by decide) hn
  rw [Nat.zero_mul, Nat.zero_add] at K
  have K := Lib.hid K
  go_enter Try.func63, Try.ntmps63
  go_wp2_with fail
  refine (K.out _).mono ?_
  rintro e w1 ⟨A1, n1, c1, rfl, L1, B1⟩
  go_wp2_with fail
  go_ret
  exact ⟨_, _, _, rfl, L1, B1⟩

/-- A natural, and a limb. -/
def RetQ (q r : Nat) (w : World) (e : Ending) (w' : World) : Prop := ∃ A n c, e = .returned (.tuple #[.slice A n c, lv r]) ∧ Lim w' A n c (limbs q) ∧ Below w.heap.size w w'
/-- .. and where the natural lies. -/
def RetQ2 (q r : Nat) (w : World) (e : Ending) (w' : World) : Prop := ∃ A n c, e = .returned (.tuple #[.slice A n c, lv r]) ∧ Lim w' A n c (limbs q) ∧ (∀ ad, A = some ad → ad.block = w.heap.size) ∧ Below w.heap.size w w'
/-- What is in the loop of divShort. -/
structure Dsh (w : World) (g n : Nat) (xs : List Nat) (b i r : Nat) (wr : World) : Prop where
  qs : ∃ qs, qs.length + i = n ∧ val (xs.drop i) = val qs * b + r ∧ Row wr g (List.replicate i 0 ++ qs)
  rb : r < b
  t : Turn w wr g
theorem Dsh.drewN {w : World} {g n : Nat} {xs : List Nat} {b i r : Nat} {wr : World} (h : Dsh w g n xs b i r wr) (m : Nat) : Dsh w g n xs b i r (wr.drewN m) := by
  obtain ⟨qs, a, c, R⟩ := h.qs
  exact ⟨⟨qs, a, c, R.drewN m⟩, h.rb, h.t.drewN m⟩
theorem dsh_step {N Q b r B' x T : Nat} (h : N = Q * b + r) (ht : T = r * B' + x) : x + B' * N = (T / b + B' * Q) * b + T % b := by
  have e := Nat.div_add_mod T b
  rw [h, Nat.add_mul, Nat.mul_add, ← Nat.mul_assoc, Nat.mul_comm (T / b) b]
  rw [Nat.mul_comm B' r]
  omega
theorem Dsh.step {w : World} {g n : Nat} {xs : List Nat} {b i r : Nat} {wr : World} (h : Dsh w g n xs b (i + 1) r wr) (hb : b < 4294967296) (hi : i < xs.length) (lx : Lo xs) (hn : i < n) :
    wr.cell? ⟨g, i, none⟩ = some (lv 0) ∧ wr.frozen? ⟨g, i, none⟩ = false ∧
      Dsh w g n xs b i ((r * 4294967296 + xs[i]) % b) (wr.setCell ⟨g, i, none⟩ (lv ((r * 4294967296 + xs[i]) / b))) := by
  obtain ⟨qs, hl, hv, R⟩ := h.qs
  have hr := h.rb
  have hx := lx.at_ i hi
  have hq : (r * 4294967296 + xs[i]) / b < 4294967296 := by
    rw [Nat.div_lt_iff_lt_mul (by omega)]
    have : (r + 1) * 4294967296 ≤ b * 4294967296 := Nat.mul_le_mul_right _ hr
    rw [Nat.mul_comm b] at this
    omega
  have e0 : List.replicate (i + 1) 0 ++ qs = List.replicate i 0 ++ (0 :: qs) := by
    rw [List.replicate_succ', List.append_assoc]; rfl
  rw [e0] at R
  refine ⟨?_, R.melt _, ⟨((r * 4294967296 + xs[i]) / b) :: qs, by simp; omega, ?_, ?_⟩, Nat.mod_lt _ (by omega), h.t.setCell _ _⟩
  · exact R.cell' (by rw [List.getElem?_append_right (by simp)]; simp)
  · rw [val_drop xs i hi, val_cons]
    exact dsh_step hv (by rw [B_eq])
  · have := R.set_ i ((r * 4294967296 + xs[i]) / b) hq
    rwa [List.set_append_right _ _ (by simp), List.length_replicate, Nat.sub_self, List.set_cons_zero] at this

set_option maxHeartbeats 2000000 in
set_option maxRecDepth 100000 in
theorem divShort_at {A : Option Addr} {n c b : Nat} {xs : List Nat} {w : World} (ha : Lim w A n c xs) (hn : n ≤ 1000) (b0 : 0 < b) (bb : b < 4294967296) :
    Calls Try.prog 89 #[.slice A n c, lv b] w fun e w' => RetQ2 (val xs / b) (val xs % b) w e w' := by
  have hmk := make_u32 n (by omega)
  have hl := ha.len
  have S0 : Dsh (w.alloc (zrow n)) w.heap.size n xs b n 0 (w.alloc (zrow n)) := ⟨⟨[], by simp, by rw [List.drop_of_length_le (by omega), val_nil, Nat.zero_mul], by simpa using Row.zeros w n⟩, b0, Turn.refl _ _⟩
  have LA := Lib.hid (ha.alloc (zrow n))
  have NA := Lib.hid ha.new_ne
  have LX := Lib.hid ha.lo
  have hBl : Below w.heap.size w (w.alloc (zrow n)) := (Below.refl _ _).alloc (Nat.le_refl _) _
  have HL := Lib.hid hl
  clear ha hl
  go_enter Try.func89, Try.ntmps89
  go_wp2_with fail
  generalize w.alloc (zrow n) = wa at *
  generalize hg : w.heap.size = g at *
  have HG := Lib.hid hg
  clear hg
  go_loopg [7, 8] n (fun q s7 s8 wr => ∃ r, q ≤ n ∧ s8 = .int .i64 ((q : Int) - 1) ∧ s7 = lv r ∧ Dsh wa g n xs b q r wr)
  case atStart => exact ⟨0, Nat.le_refl _, rfl, rfl, S0⟩
  case round =>
    clear S0
    obtain ⟨r, hq, rfl, rfl, S⟩ := hrel
    by_cases hz : gk = 0
    · subst hz
      have ek : ((0 : Nat) : Int) - 1 = -1 := by omega
      rw [ek]
      clear ek
      obtain ⟨qs, ql, qv, R⟩ := S.qs
      rw [List.drop_zero] at qv
      have hr := S.rb
      have e1 : val xs / b = val qs ∧ val xs % b = r := by
        refine (Nat.div_mod_unique b0).2 ⟨?_, hr⟩
        rw [qv, Nat.mul_comm, Nat.add_comm]
      have T := hBl.trans (S.t.below (Nat.le_refl _))
      have TR := trim_at (R.lim (o := 0) (n := n) (c := n) (by simp; omega) (Nat.le_refl _) (by omega))
      unfold RetA at TR
      rw [List.drop_zero, List.take_of_length_le (by simp; omega), List.replicate_zero, List.nil_append, ← e1.1] at TR
      have TR := Lib.hid TR
      have E1 := Lib.hid e1
      clear R S qv ql hq e1
      go_wp2_with fail
      refine TR.out.mono ?_
      rintro e w2 ⟨A2, n2, c2, rfl, L2, H2, rfl⟩
      go_wp2_with fail
      go_ret2
      exact ⟨_, _, _, by rw [E1.out.2]; rfl, L2, fun ad e => (by have e2 := H2 ad e; injection e2 with e2; rw [HG.out, ← e2]), by rw [HG.out]; exact T⟩
    · obtain ⟨k, rfl⟩ : ∃ k, gk = k + 1 := ⟨gk - 1, by omega⟩
      have ek : ((k + 1 : Nat) : Int) - 1 = (k : Int) := by omega
      rw [ek]
      have kx : k < xs.length := by rw [HL.out]; omega
      obtain ⟨ad, rfl, c1⟩ := (turn_lim S.t LA.out NA.out).at_ k kx
      obtain ⟨c3, f3, ST⟩ := S.step bb kx LX.out (by omega)
      have ST := Lib.hid ST
      have hx := LX.out.at_ k kx
      have KD := Lib.hid (div32 r xs[k] b S.rb hx bb)
      generalize xs[k] = x at *
      generalize (r * 4294967296 + x) / b = v at *
      generalize (r * 4294967296 + x) % b = r2 at *
      have il0 : (0 : Int) ≤ k := by omega
      have il : (k : Int) < n := by omega
      clear S ek
      go_wp2_with fail
      refine (KD.out _).mono ?_
      rintro e w1 ⟨rfl, m, rfl⟩
      go_wp2_with fail
      go_roundg k
      case measure => omega
      case rel =>
        go_light
        exact ⟨r2, by omega, rfl, rfl, ST.out.drewN m⟩
theorem divShort_any {A : Option Addr} {n c b : Nat} {xs : List Nat} {w : World} (ha : Lim w A n c xs) (hn : n ≤ 1000) (b0 : 0 < b) (bb : b < 4294967296) :
    Calls Try.prog 89 #[.slice A n c, lv b] w fun e w' => RetQ (val xs / b) (val xs % b) w e w' :=
  (divShort_at ha hn b0 bb).mono fun _ _ ⟨A', n', c', h1, h2, _, h4⟩ => ⟨A', n', c', h1, h2, h4⟩
end Go.Proofs.Ytacobmnghdibaaa
