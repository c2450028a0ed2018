/- The document's answers: the walks of Number and bytes. The document's answers: the walks of bytes and value. The document's answers: the walk of number. Blocks that a call has made, and writes into. The document's answers: the walks of rest and gone. The document's answers: the walk of ReadNumber. The document's answers: the walk of ReadText. The document's sum in four bytes. Blocks of a call's own, as many as there are. -/
import Derived.Test.YthbgbgobfoecoaaJ01
import Derived.Test.YthbgbgobfoecoaaJ00
import Derived.Laws.IdiomStrings
namespace Go.Proofs.Ythbgbgobfoecoaa
open Go.RowKit
set_option linter.unusedVariables false
set_option linter.unusedSimpArgs false
set_option maxHeartbeats 2000000
set_option maxRecDepth 100000
/-- One byte that was made anew, as a text. -/
theorem conv_one (W : World) (b : UInt8) : (convert 36 9 (.slice (some ⟨W.heap.size, 0, none⟩) 1 1)).run Try.prog (W.alloc (.cells #[.int .u8 (b.toNat : Int)] 5)) = .ok (.string (bs [b])) (W.alloc (.cells #[.int .u8 (b.toNat : Int)] 5)) := by
  exact run_convert_bytes_back _ 36 9 5 ⟨W.heap.size, 0, none⟩ 1 [b] Try.underlying36 Try.underlying5 Try.underlying9 (fun j hj => by
    have hj0 : j = 0 := by simpa using hj
    subst hj0
    show (match (W.alloc (.cells #[.int .u8 (b.toNat : Int)] 5)).heap[W.heap.size]? with | some (.cells c _ _) => if (none : Option Nat).isSome then none else c[0]? | _ => none) = _
    rw [heap_alloc_new]
    rfl)
theorem below_one (W : World) (o : Obj) : Below W.heap.size W (W.alloc o) := (Below.refl _ _).alloc (Nat.le_refl _) o
theorem byte_high (n : Nat) : ∃ b : UInt8, (128 : Int) + (n : Int) % 128 = (b.toNat : Int) ∧ b = by8 (128 + n % 128) := ⟨by8 (128 + n % 128), by rw [by8_toNat (by omega)]; omega, rfl⟩
theorem byte_low {n : Nat} (h : n < 256) : ∃ b : UInt8, (n : Int) = (b.toNat : Int) ∧ b = by8 n := ⟨by8 n, by rw [by8_toNat h], rfl⟩
theorem refNumber_any (n : Nat) (hn : n < 18446744073709551616) (w : World) : Calls Try.prog 14 #[.int .u64 (n : Int)] w fun e w' => e = .returned (.string (bs (enc n))) ∧ Below w.heap.size w w' := by
  have H10 := Lib.hid (enc_ten hn)
  go_enter Try.func14, Try.ntmps14
  go_wp2_with fail
  go_loopg [0, 3] n (fun q s0 s3 wr => ∃ s : ByteArray, s0 = .int .u64 (q : Int) ∧ s3 = .string s ∧ q < 18446744073709551616 ∧ Hid (L s ++ enc q = enc n) ∧ Below w.heap.size w wr)
  case atStart => exact ⟨⟨#[]⟩, rfl, rfl, hn, rfl, Below.refl _ _⟩
  case round =>
    obtain ⟨s, rfl, rfl, hq, he, BL⟩ := hrel
    obtain ⟨m, rfl⟩ : ∃ m, m = gk := ⟨_, rfl⟩
    have hs : s.size ≤ 10 := by
      have := congrArg List.length he.out
      rw [List.length_append, L_len] at this
      have := H10.out
      omega
    by_cases hm : m < 128
    · have h1 : ¬ (127 : Int) < m := by omega
      obtain ⟨b, e1, e2⟩ := byte_low (show m < 256 by omega)
      have ES : Hid (s ++ bs [b] = bs (enc n)) := L_inj (by rw [L_app, L_bs, L_bs, ← he.out, enc_low hm, e2])
      have sz : (bs [b]).size = 1 := rfl
      have hadd : ∀ W : World, (Op.stringOp .add s (bs [b])).run Try.prog W = .ok (.string (s ++ bs [b])) W := fun W => run_string_add_sum W s (bs [b]) (by omega)
      have hcv := conv_one wr b
      have BW := Lib.hid (BL.alloc BL.size (.cells #[.int .u8 (b.toNat : Int)] 5))
      clear e2 sz
      go_wp2_with fail
      go_ret
      exact ⟨by rw [← ES.out]; rfl, BW.out⟩
    · have h1 : (127 : Int) < m := by omega
      obtain ⟨b, e1, e2⟩ := byte_high m
      have ES : Hid (L (s ++ bs [b]) ++ enc (m / 128) = enc n) := by
        unfold Hid
        rw [L_app, L_bs, ← he.out, enc_high hm, e2, List.append_assoc]; rfl
      have sz : (bs [b]).size = 1 := rfl
      have hadd : ∀ W : World, (Op.stringOp .add s (bs [b])).run Try.prog W = .ok (.string (s ++ bs [b])) W := fun W => run_string_add_sum W s (bs [b]) (by omega)
      have hle : ¬ (9223372036854775807 < s.size + (bs [b]).size) := by omega
      have hcv := conv_one wr b
      have BW := Lib.hid (BL.alloc BL.size (.cells #[.int .u8 (b.toNat : Int)] 5))
      have HM := Lib.hid hm
      have b256 : b.toNat < 256 := b.toNat_lt
      clear e2 sz he BL
      go_wp2_with fail
      go_roundg (m / 128)
      case measure => have := HM.out; omega
      case rel =>
        go_light
        exact ⟨s ++ bs [b], by go_num, rfl, by omega, ES.out, BW.out⟩
end Go.Proofs.Ythbgbgobfoecoaa
namespace Go.Proofs.Ythbgbgobfoecoaa
open Go.RowKit
set_option linter.unusedVariables false
set_option linter.unusedSimpArgs false
set_option maxHeartbeats 2000000
set_option maxRecDepth 100000
theorem byte_mod (n : Nat) : ∃ b : UInt8, (n : Int) % 256 = (b.toNat : Int) ∧ b = by8 (n % 256) := ⟨by8 (n % 256), by rw [by8_toNat (by omega)]; omega, rfl⟩
theorem value_step {v : Nat} {b : UInt8} (h : b.toNat + 256 * v < 18446744073709551616) : IntKind.u64.wrap (IntKind.u64.wrap (256 * (v : Int)) + IntKind.u64.wrap (b.toNat : Int)) = ((b.toNat + 256 * v : Nat) : Int) := by
  have := b.toNat_lt
  rw [IntKind.wrap_u64, IntKind.wrap_u64, IntKind.wrap_u64]; omega
end Go.Proofs.Ythbgbgobfoecoaa
namespace Go.Proofs.Ythbgbgobfoecoaa
open Go.RowKit
set_option linter.unusedVariables false
set_option linter.unusedSimpArgs false
set_option maxHeartbeats 2000000
set_option maxRecDepth 100000
/-- The number that a text begins with, and how many bytes it has; 0, 0: there is none. -/
@[irreducible] def numOf (l : List UInt8) : Nat × Nat := (numAt l).getD (0, 0)
theorem numOf_none {l : List UInt8} (h : numAt l = none) : numOf l = (0, 0) := by unfold numOf; rw [h]; rfl
theorem numOf_some {l : List UInt8} {n k : Nat} (h : numAt l = some (n, k)) : numOf l = (n, k) := by unfold numOf; rw [h]; rfl
/-- One more than the greatest word; 128 so often. -/
@[irreducible] def p128 (i : Nat) : Nat := 128 ^ i % 18446744073709551616
theorem p128_eq (i : Nat) : p128 i = 128 ^ i % 18446744073709551616 := by unfold p128; rfl
theorem p128_zero : p128 0 = 1 := by rw [p128_eq]
theorem p128_step (i : Nat) : IntKind.u64.wrap ((p128 i : Int) * 128) = (p128 (i + 1) : Int) := by
  have e : p128 (i + 1) = p128 i * 128 % 18446744073709551616 := by
    rw [p128_eq, p128_eq, Nat.pow_succ, Nat.mod_mul_mod]
  rw [e, IntKind.wrap_u64]; omega
/-- The number of the first i bytes, as a word. -/
@[irreducible] def v64 (l : List UInt8) (i : Nat) : Nat := val7 (l.take i) % 18446744073709551616
theorem v64_eq (l : List UInt8) (i : Nat) : v64 l i = val7 (l.take i) % 18446744073709551616 := by unfold v64; rfl
theorem v64_zero (l : List UInt8) : v64 l 0 = 0 := by rw [v64_eq, List.take_zero]; rfl
theorem v64_lt (l : List UInt8) (i : Nat) : v64 l i < 18446744073709551616 := by rw [v64_eq]; exact Nat.mod_lt _ (by decide)
theorem v64_step {l : List UInt8} {i : Nat} (h : i < l.length) : IntKind.u64.wrap ((v64 l i : Int) + IntKind.u64.wrap ((l[i].toNat : Int) % 128 * (p128 i : Int))) = (v64 l (i + 1) : Int) := by
  have e : v64 l (i + 1) = (v64 l i + l[i].toNat % 128 * p128 i % 18446744073709551616) % 18446744073709551616 := by
    rw [v64_eq, v64_eq, val7_take l i h, p128_eq, Nat.mul_comm (l[i].toNat % 128), Nat.mod_mul_mod, ← Nat.add_mod]
  have c : ((l[i].toNat : Int) % 128 * (p128 i : Int)) = ((l[i].toNat % 128 * p128 i : Nat) : Int) := by
    rw [Int.natCast_mul]; rfl
  rw [c, e, IntKind.wrap_u64, IntKind.wrap_u64]
  generalize l[i].toNat % 128 * p128 i = z
  omega
theorem refNum_any (s : ByteArray) (hs : s.size ≤ 9223372036854775807) (w : World) : Calls Try.prog 30 #[.string s] w fun e w' => e = .returned (.tuple #[.int .u64 ((numOf (L s)).1 : Int), .int .i64 ((numOf (L s)).2 : Int)]) ∧ Below w.heap.size w w' := by
  have HS := Lib.hid (L_len s)
  have KN : Hid (∀ (n : Nat) (W : World), n < 18446744073709551616 → Calls Try.prog 14 #[.int .u64 (n : Int)] W fun e w' => e = .returned (.string (bs (enc n))) ∧ Below W.heap.size W w') := fun n W hn => refNumber_any n hn W
  have V0 := Lib.hid (v64_zero (L s))
  have P0 := Lib.hid p128_zero
  go_enter Try.func30, Try.ntmps30
  go_wp2_with fail
  go_loopg [4, 5, 6] 10 (fun q s4 s5 s6 wr => ∃ i : Nat, i + q = 10 ∧ i ≤ s.size ∧ s4 = .int .u64 (v64 (L s) i : Int) ∧ s5 = .int .u64 (p128 i : Int) ∧ s6 = .int .i64 (i : Int) ∧ Hid (∀ j (hj : j < (L s).length), j < i → ¬ (L s)[j].toNat < 128) ∧ w = wr)
  case atStart => exact ⟨0, by omega, Nat.zero_le _, by rw [V0.out]; rfl, by rw [P0.out]; rfl, rfl, fun j _ hj => absurd hj (by omega), rfl⟩
  case round =>
    obtain ⟨i, hq, hi, rfl, rfl, rfl, hno, rfl⟩ := hrel
    have HQ := Lib.hid hq
    by_cases lt : i < s.size
    · have il : (i : Int) < s.size := by omega
      have il0 : (0 : Int) ≤ i := by omega
      by_cases l10 : i < 10
      · have i10 : (i : Int) < 10 := by omega
        have ix : i < (L s).length := by rw [HS.out]; exact lt
        have EV := v64_step ix
        have EP := p128_step i
        have V1 := v64_lt (L s) (i + 1)
        have eb : IntKind.u64.wrap ((s[i]'lt).toNat : Int) = ((L s)[i].toNat : Int) := by
          have : (s[i]'lt).toNat = (L s)[i].toNat := rfl
          have b := (L s)[i].toNat_lt
          rw [this, IntKind.wrap_u64]; omega
        have bb : (L s)[i].toNat < 256 := UInt8.toNat_lt _
        have i63 : i < 9223372036854775807 := by omega
        have LOW := Lib.hid (fun (low : (L s)[i].toNat < 128) => numAt_here ix low (fun j hj => hno.out j (by omega) hj))
        have HIGH : Hid (¬ (L s)[i].toNat < 128 → ∀ j (hj : j < (L s).length), j < i + 1 → ¬ (L s)[j].toNat < 128) := by
          intro h j hj hj2
          by_cases e : j < i
          · exact hno.out j hj e
          · have e2 : j = i := by omega
            subst e2
            exact h
        rw [← v64_eq] at LOW
        generalize (L s)[i].toNat = y at *
        clear hq hno
        by_cases low : y < 128
        · have NH := Lib.hid (LOW.out low)
          have hl : (y : Int) < 128 := by omega
          have KN1 := Lib.hid (fun W => KN.out _ W V1)
          have SE : Hid ((s.extract 0 (i + 1)).data.toList = (L s).take (i + 1)) := L_take s (i + 1)
          clear LOW HIGH low
          generalize v64 (L s) (i + 1) = v1 at *
          generalize v64 (L s) i = v0 at *
          generalize p128 (i + 1) = p1 at *
          generalize p128 i = p0 at *
          obtain ⟨k, hk⟩ : ∃ k, k = i + 1 := ⟨_, rfl⟩
          have e3 : (i : Int) + 1 = (k : Int) := by omega
          have j1 : (k : Int) ≤ s.size := by omega
          have j2 : (0 : Int) ≤ (k : Int) := by omega
          have j3 : k ≤ s.size := by omega
          rw [← hk] at NH SE
          have hsl : ∀ W : World, (Instr.slice 9 (.string s) none (some (.int .i64 (k : Int))) none).run Try.prog W = .ok (.string (s.extract 0 k)) W := fun W => run_slice_string_h W 9 s Try.underlying9 .i64 (k : Int) j2 j1
          have ew : IntKind.i64.wrap ((i : Int) + 1) = (k : Int) := by rw [e3, IntKind.wrap_i64]; omega
          have ew2 : IntKind.i64.wrap (k : Int) = (k : Int) := by rw [IntKind.wrap_i64]; omega
          clear hk
          by_cases en : enc v1 = (L s).take k
          · have EN : Hid (numOf (L s) = (v1, k)) := numOf_some (by rw [NH.out, if_pos en])
            have cb : (enc v1 == (s.extract 0 k).toList) = true := by rw [ByteArray.toList_eq, SE.out, en]; exact beq_self_eq_true _
            clear en
            generalize enc v1 = l1 at *
            go_wp2_with fail
            go_region_held3 (fun w' => Below w.heap.size w w')
              ((first | exact (Below.refl _ _).drew | exact below_step (Below.refl _ _).drew (by assumption)))
              (first | (go_at_call 14; refine (KN1.out _).mono ?_; rintro e z ⟨rfl, BZ⟩))
            all_goals go_wp2_with fail
            go_ret2
            exact ⟨by rw [EN.out]; rfl, below_step (Below.refl _ _).drew BZ⟩
          · have EN : Hid (numOf (L s) = (0, 0)) := numOf_none (by rw [NH.out, if_neg en])
            have cb : (enc v1 == (s.extract 0 k).toList) = false := by
              rw [ByteArray.toList_eq, SE.out]; exact beq_eq_false_iff_ne.2 en
            clear en
            generalize enc v1 = l1 at *
            go_wp2_with fail
            go_region_held3 (fun w' => Below w.heap.size w w')
              ((first | exact (Below.refl _ _).drew | exact below_step (Below.refl _ _).drew (by assumption)))
              (first | (go_at_call 14; refine (KN1.out _).mono ?_; rintro e z ⟨rfl, BZ⟩))
            all_goals go_wp2_with fail
            go_ret2
            exact ⟨by rw [EN.out]; rfl, below_step (Below.refl _ _).drew BZ⟩
        · have HG := Lib.hid (HIGH.out low)
          have hl : ¬ (y : Int) < 128 := by omega
          clear LOW HIGH low
          have j3 : i + 1 ≤ s.size := by omega
          have ew : IntKind.i64.wrap ((i : Int) + 1) = ((i + 1 : Nat) : Int) := by rw [IntKind.wrap_i64]; omega
          have hq := HQ.out
          go_wp2_with fail
          go_roundg (gk - 1)
          case measure => have := HQ.out; omega
          case rel =>
            exact ⟨i + 1, by omega, j3, by first | rfl | (rw [EV]), by first | rfl | (rw [EP]), by first | rfl | (rw [ew]) | (congr 1), HG, rfl⟩
      · have e10 : i = 10 := by omega
        subst e10
        have EN : Hid (numOf (L s) = (0, 0)) := numOf_none (numAt_long (l := L s) (fun j hj hj2 => hno.out j hj hj2))
        clear hno hq
        go_wp2_with fail
        go_ret2
        exact ⟨by rw [EN.out]; rfl, Below.refl _ _⟩
    · have e10 : i = s.size := by omega
      have EN : Hid (numOf (L s) = (0, 0)) := numOf_none (numAt_long (l := L s) (fun j hj hj2 => hno.out j hj (by have := HS.out; omega)))
      clear hno hq
      have il : ¬ (i : Int) < s.size := by omega
      go_wp2_with fail
      go_ret2
      exact ⟨by rw [EN.out]; rfl, Below.refl _ _⟩
end Go.Proofs.Ythbgbgobfoecoaa
namespace Go.Proofs.Ythbgbgobfoecoaa
open Go.RowKit
theorem below_al {w a : World} (h : Below w.heap.size w a) (o : Obj) : Below w.heap.size w (a.alloc o) := h.alloc h.size o

/-- Block g is just these cells, and may be written. -/
def Box (w : World) (g : Nat) (cs : Array Value) : Prop := ∃ t, w.heap[g]? = some (.cells cs t (0, 0))
section
variable {w w' : World} {g : Nat} {cs : Array Value}
theorem Box.lt (h : Box w g cs) : g < w.heap.size := by obtain ⟨_, h⟩ := h; exact (Array.getElem?_eq_some_iff.1 h).1
theorem Box.cell (h : Box w g cs) {i : Nat} {v : Value} (hi : cs[i]? = some v) : w.cell? ⟨g, i, none⟩ = some v := by
  obtain ⟨_, h⟩ := h
  simp [World.cell?, h, hi]
theorem Box.melt (h : Box w g cs) (i : Nat) : w.frozen? ⟨g, i, none⟩ = false := by
  obtain ⟨_, h⟩ := h
  simp [World.frozen?, h]
theorem Box.drew (h : Box w g cs) : Box w.drew g cs := h
theorem Box.next (h : Box w g cs) (hb : Below w.heap.size w w') : Box w' g cs := by
  have l := h.lt
  obtain ⟨t, h⟩ := h
  exact ⟨t, (hb.block g l).trans h⟩
theorem Box.alloc (h : Box w g cs) (o : Obj) : Box (w.alloc o) g cs := h.next ((Below.refl _ _).alloc (Nat.le_refl _) o)
theorem Box.far (h : Box w g cs) {p : Addr} (hp : g ≠ p.block) (u : Value) : Box (w.setCell p u) g cs := by
  obtain ⟨t, h⟩ := h
  exact ⟨t, (Below.heap_setCell w p u g hp).trans h⟩
theorem Box.set (h : Box w g cs) (i : Nat) (u : Value) : Box (w.setCell ⟨g, i, none⟩ u) g (cs.setIfInBounds i u) := by
  obtain ⟨t, h⟩ := h
  exact ⟨t, by simp [World.setCell, Array.getElem?_modify, h]⟩
theorem Box.new (w : World) (cs : Array Value) (t : TypeId) : Box (w.alloc (.cells cs t)) w.heap.size cs := ⟨t, heap_alloc_new w _⟩
end
theorem below_set {B : Nat} {w W : World} (h : Below B w W) {p : Addr} (hp : B ≤ p.block) (u : Value) : Below B w (W.setCell p u) :=
  ⟨h.os, h.tape, h.output, by rw [show (W.setCell p u).heap.size = W.heap.size by simp [World.setCell]]; exact h.size, fun k hk => (Below.heap_setCell W p u k (by omega)).trans (h.block k hk)⟩

/-- Duo blocks of the call's own; below them nothing has turned. -/
structure Duo (w : World) (g r : Nat) (cs ds : Array Value) (W : World) : Prop where
  bg : Box W g cs
  br : Box W r ds
  ne : g ≠ r
  hg : w.heap.size ≤ g
  hr : w.heap.size ≤ r
  bl : Below w.heap.size w W
section
variable {w W W' : World} {g r : Nat} {cs ds : Array Value}
theorem Duo.drew (h : Duo w g r cs ds W) : Duo w g r cs ds W.drew := ⟨h.bg, h.br, h.ne, h.hg, h.hr, h.bl.drew⟩
theorem Duo.next (h : Duo w g r cs ds W) (hb : Below W.heap.size W W') : Duo w g r cs ds W' := ⟨h.bg.next hb, h.br.next hb, h.ne, h.hg, h.hr, below_step h.bl hb⟩
theorem Duo.set (h : Duo w g r cs ds W) (i : Nat) (u : Value) : Duo w g r (cs.setIfInBounds i u) ds (W.setCell ⟨g, i, none⟩ u) :=
  ⟨h.bg.set i u, h.br.far (Ne.symm h.ne) u, h.ne, h.hg, h.hr, below_set h.bl h.hg u⟩
theorem Duo.new (w : World) (cs ds : Array Value) (t t' : TypeId) : Duo w w.heap.size (w.heap.size + 1) cs ds ((w.alloc (.cells cs t)).alloc (.cells ds t')) :=
  ⟨(Box.new w cs t).alloc _, by simpa using Box.new (w.alloc (.cells cs t)) ds t', by omega, Nat.le_refl _, by omega, below_al ((Below.refl _ _).alloc (Nat.le_refl _) _) _⟩
end
theorem Duo.swap {w W : World} {g r : Nat} {cs ds : Array Value} (h : Duo w g r cs ds W) : Duo w r g ds cs W := ⟨h.br, h.bg, Ne.symm h.ne, h.hr, h.hg, h.bl⟩
theorem Duo.put4 {w W : World} {g r : Nat} {cs : Array Value} {z0 z1 z2 z3 : Value} (h : Duo w g r cs #[z0, z1, z2, z3] W) (a b c d : Value) :
    Duo w g r cs #[a, b, c, d] ((((W.setCell ⟨r, 0, none⟩ a).setCell ⟨r, 1, none⟩ b).setCell ⟨r, 2, none⟩ c).setCell ⟨r, 3, none⟩ d) :=
  ((((h.swap.set 0 a).set 1 b).set 2 c).set 3 d).swap
/-- One block of the call's own. -/
structure One (w : World) (g : Nat) (cs : Array Value) (W : World) : Prop where
  bg : Box W g cs
  hg : w.heap.size ≤ g
  bl : Below w.heap.size w W
section
variable {w W W' : World} {g : Nat} {cs : Array Value}
theorem One.drew (h : One w g cs W) : One w g cs W.drew := ⟨h.bg, h.hg, h.bl.drew⟩
theorem One.next (h : One w g cs W) (hb : Below W.heap.size W W') : One w g cs W' := ⟨h.bg.next hb, h.hg, below_step h.bl hb⟩
theorem One.set (h : One w g cs W) (i : Nat) (u : Value) : One w g (cs.setIfInBounds i u) (W.setCell ⟨g, i, none⟩ u) := ⟨h.bg.set i u, h.hg, below_set h.bl h.hg u⟩
theorem One.new (w : World) (cs : Array Value) (t : TypeId) : One w w.heap.size cs (w.alloc (.cells cs t)) := ⟨Box.new w cs t, Nat.le_refl _, (Below.refl _ _).alloc (Nat.le_refl _) _⟩
theorem One.put4 {z0 z1 z2 z3 : Value} (h : One w g #[z0, z1, z2, z3] W) (a b c d : Value) :
    One w g #[a, b, c, d] ((((W.setCell ⟨g, 0, none⟩ a).setCell ⟨g, 1, none⟩ b).setCell ⟨g, 2, none⟩ c).setCell ⟨g, 3, none⟩ d) :=
  (((h.set 0 a).set 1 b).set 2 c).set 3 d
end
theorem Box.two {w : World} {g : Nat} {a b : Value} (h : Box w g #[a, b]) : w.cell? ⟨g, 0, none⟩ = some a ∧ w.cell? ⟨g, 1, none⟩ = some b := ⟨h.cell rfl, h.cell rfl⟩
theorem One.two {w W : World} {g : Nat} {cs : Array Value} (h : One w g cs W) (ds : Array Value) (t : TypeId) : Duo w g W.heap.size cs ds (W.alloc (.cells ds t)) :=
  ⟨h.bg.alloc _, Box.new _ _ _, by have := h.bg.lt; omega, h.hg, h.bl.size, below_al h.bl _⟩
theorem Duo.put2 {w W : World} {g r : Nat} {cs : Array Value} {z0 z1 : Value} (h : Duo w g r cs #[z0, z1] W) (a b : Value) :
    Duo w g r cs #[a, b] ((W.setCell ⟨r, 0, none⟩ a).setCell ⟨r, 1, none⟩ b) :=
  ((h.swap.set 0 a).set 1 b).swap
theorem Box.three {w : World} {g : Nat} {a b c : Value} (h : Box w g #[a, b, c]) : w.cell? ⟨g, 0, none⟩ = some a ∧ w.cell? ⟨g, 1, none⟩ = some b ∧ w.cell? ⟨g, 2, none⟩ = some c := ⟨h.cell rfl, h.cell rfl, h.cell rfl⟩
theorem Duo.put3 {w W : World} {g r : Nat} {cs : Array Value} {z0 z1 z2 : Value} (h : Duo w g r cs #[z0, z1, z2] W) (a b c : Value) :
    Duo w g r cs #[a, b, c] (((W.setCell ⟨r, 0, none⟩ a).setCell ⟨r, 1, none⟩ b).setCell ⟨r, 2, none⟩ c) :=
  (((h.swap.set 0 a).set 1 b).set 2 c).swap
/-- A reader. -/
abbrev rd (s : ByteArray) (p : Int) (lo : Bool) : Value := .agg #[.string s, .int .i64 p, .bool lo]
/-- May anything be asked of it? -/
def okR (n : Nat) (p : Int) (lo : Bool) : Bool := !lo && decide (0 ≤ p ∧ p ≤ (n : Int))
theorem okR_no {n : Nat} {p : Int} {lo : Bool} (h : okR n p lo = false) : lo = true ∨ p < 0 ∨ (n : Int) < p := by
  unfold okR at h
  cases lo
  · simp at h
    right
    omega
  · exact Or.inl rfl
theorem okR_yes {n : Nat} {p : Int} {lo : Bool} (h : okR n p lo = true) : lo = false ∧ ∃ i : Nat, p = i ∧ i ≤ n := by
  unfold okR at h
  cases lo
  · simp at h
    exact ⟨rfl, p.toNat, by omega, by omega⟩
  · cases h
end Go.Proofs.Ythbgbgobfoecoaa
namespace Go.Proofs.Ythbgbgobfoecoaa
open Go.RowKit
set_option linter.unusedVariables false
set_option linter.unusedSimpArgs false
set_option maxHeartbeats 2000000
set_option maxRecDepth 100000
theorem refRest_yes (s : ByteArray) (i : Nat) (hi : i ≤ s.size) (hs : s.size ≤ 9223372036854775807) (w : World) : Calls Try.prog 29 #[rd s i false] w fun e w' => e = .returned (.tuple #[.string (s.extract i s.size), .bool true]) ∧ Below w.heap.size w w' := by
  have BL : Below w.heap.size w (w.alloc (.cells #[.string s, .int .i64 i, .bool false] 51)) := (Below.refl _ _).alloc (Nat.le_refl _) _
  have h1 : ¬ (s.size : Int) < i := by omega
  have h2 : (i : Int) ≤ s.size := by omega
  go_enter Try.func29, Try.ntmps29
  go_wp2_with fail
  go_ret2
  exact ⟨rfl, BL⟩
theorem refRest_no (s : ByteArray) (p : Int) (lo : Bool) (h : okR s.size p lo = false) (w : World) : Calls Try.prog 29 #[rd s p lo] w fun e w' => e = .returned (.tuple #[.string ⟨#[]⟩, .bool false]) ∧ Below w.heap.size w w' := by
  have BL : Below w.heap.size w (w.alloc (.cells #[.string s, .int .i64 p, .bool lo] 51)) := (Below.refl _ _).alloc (Nat.le_refl _) _
  have h := okR_no h
  cases lo
  · by_cases hp : p < 0
    · go_enter Try.func29, Try.ntmps29
      go_wp2_with fail
      go_ret2
      exact ⟨rfl, BL⟩
    · have hq : (s.size : Int) < p := by
        rcases h with h | h | h
        · cases h
        · omega
        · exact h
      clear h
      go_enter Try.func29, Try.ntmps29
      go_wp2_with fail
      go_ret2
      exact ⟨rfl, BL⟩
  · clear h
    go_enter Try.func29, Try.ntmps29
    go_wp2_with fail
    go_ret2
    exact ⟨rfl, BL⟩
theorem refGone_any (s : ByteArray) (p : Int) (lo : Bool) (w : World) : Calls Try.prog 31 #[rd s p lo] w fun e w' => e = .returned (rd s p true) ∧ Below w.heap.size w w' := by
  go_enter Try.func31, Try.ntmps31
  go_wp2_with fail
  have M := Duo.new w #[.string s, .int .i64 p, .bool lo] #[.string s, .int .i64 p, .bool true] 51 51
  obtain ⟨z0, z1, z2⟩ := M.br.three
  have BB := Lib.hid M.bl
  clear M
  generalize (w.alloc (.cells #[.string s, .int .i64 p, .bool lo] 51)).alloc (.cells #[.string s, .int .i64 p, .bool true] 51) = W at *
  exact bodyPost_ret (v := rd s p true) (by simp [results, Try.results31, go_sem, z0, z1, z2]) rfl ⟨rfl, BB.out⟩
end Go.Proofs.Ythbgbgobfoecoaa
namespace Go.Proofs.Ythbgbgobfoecoaa
open Go.RowKit
set_option linter.unusedVariables false
set_option linter.unusedSimpArgs false
set_option maxHeartbeats 2000000
set_option maxRecDepth 100000
/-- What is to be read. -/
@[irreducible] def restB (s : ByteArray) (p : Int) (lo : Bool) : ByteArray := if okR s.size p lo = true then s.extract p.toNat s.size else ⟨#[]⟩
theorem restB_no {s : ByteArray} {p : Int} {lo : Bool} (h : okR s.size p lo = false) : restB s p lo = ⟨#[]⟩ := by unfold restB; rw [if_neg (by rw [h]; decide)]
theorem restB_yes {s : ByteArray} {i : Nat} (h : i ≤ s.size) : restB s i false = s.extract i s.size := by
  unfold restB; rw [if_pos (by unfold okR; simp; omega)]; rfl
theorem okR_at {n i : Nat} (h : i ≤ n) : okR n i false = true := by unfold okR; simp; omega
theorem restB_L {s : ByteArray} {i : Nat} (h : i ≤ s.size) : L (restB s i false) = (L s).drop i := by rw [restB_yes h, L_drop]
theorem restB_size (s : ByteArray) (p : Int) (lo : Bool) : (restB s p lo).size ≤ s.size := by
  cases h : okR s.size p lo
  · rw [restB_no h]; exact Nat.zero_le _
  · obtain ⟨rfl, i, rfl, hi⟩ := okR_yes h
    rw [restB_yes hi, ByteArray.size_extract]; omega
theorem refRest_any (s : ByteArray) (p : Int) (lo : Bool) (hs : s.size ≤ 9223372036854775807) (w : World) : Calls Try.prog 29 #[rd s p lo] w fun e w' => e = .returned (.tuple #[.string (restB s p lo), .bool (okR s.size p lo)]) ∧ Below w.heap.size w w' := by
  cases h : okR s.size p lo
  · rw [restB_no h]; exact refRest_no s p lo h w
  · obtain ⟨rfl, i, rfl, hi⟩ := okR_yes h
    rw [restB_yes hi]; exact refRest_yes s i hi hs w
theorem numOf_le (l : List UInt8) : (numOf l).2 ≤ l.length ∧ (numOf l).1 < 18446744073709551616 := by
  cases h : numAt l with
  | none => rw [numOf_none h]; exact ⟨Nat.zero_le _, by decide⟩
  | some x =>
    obtain ⟨n, k⟩ := x
    rw [numOf_some h]
    obtain ⟨a, b, c⟩ := numAt_iff.1 h
    have := congrArg List.length c
    rw [List.length_take] at this
    exact ⟨by show k ≤ _; omega, a⟩
/-- The reader after an answer: behind it, or lost. -/
abbrev rdo (s : ByteArray) (p : Int) : Option Nat → Value
  | some k => rd s (p + k) false
  | none => rd s p true
/-- A number, and how many bytes it has, or none. -/
@[irreducible] def readN (s : ByteArray) (p : Int) (lo : Bool) (most : Nat) : Option (Nat × Nat) :=
  if okR s.size p lo = true ∧ (numOf (L (restB s p lo))).2 ≠ 0 ∧ (numOf (L (restB s p lo))).1 ≤ most then some (numOf (L (restB s p lo))) else none
theorem readN_none {s : ByteArray} {p : Int} {lo : Bool} {most : Nat} (h : ¬ (okR s.size p lo = true ∧ (numOf (L (restB s p lo))).2 ≠ 0 ∧ (numOf (L (restB s p lo))).1 ≤ most)) : readN s p lo most = none := by unfold readN; rw [if_neg h]
theorem readN_some {s : ByteArray} {p : Int} {lo : Bool} {most : Nat} (h : okR s.size p lo = true ∧ (numOf (L (restB s p lo))).2 ≠ 0 ∧ (numOf (L (restB s p lo))).1 ≤ most) : readN s p lo most = some (numOf (L (restB s p lo))) := by unfold readN; rw [if_pos h]
abbrev rdv : Value := .agg #[.string ⟨#[]⟩, .int .i64 0, .bool false]
end Go.Proofs.Ythbgbgobfoecoaa
namespace Go.Proofs.Ythbgbgobfoecoaa
open Go.RowKit
set_option linter.unusedVariables false
set_option linter.unusedSimpArgs false
set_option maxHeartbeats 2000000
set_option maxRecDepth 100000
/-- How many bytes a text has, and how many its number has, or none. -/
@[irreducible] def readT (s : ByteArray) (p : Int) (lo : Bool) (most : Int) : Option (Nat × Nat) :=
  if okR s.size p lo = true ∧ (numOf (L (restB s p lo))).2 ≠ 0 ∧ 0 ≤ most ∧ ((numOf (L (restB s p lo))).1 : Int) ≤ most ∧ (numOf (L (restB s p lo))).1 + (numOf (L (restB s p lo))).2 ≤ (restB s p lo).size then some (numOf (L (restB s p lo))) else none
theorem readT_none {s : ByteArray} {p : Int} {lo : Bool} {most : Int} (h : ¬ (okR s.size p lo = true ∧ (numOf (L (restB s p lo))).2 ≠ 0 ∧ 0 ≤ most ∧ ((numOf (L (restB s p lo))).1 : Int) ≤ most ∧ (numOf (L (restB s p lo))).1 + (numOf (L (restB s p lo))).2 ≤ (restB s p lo).size)) : readT s p lo most = none := by unfold readT; rw [if_neg h]
theorem readT_some {s : ByteArray} {p : Int} {lo : Bool} {most : Int} (h : okR s.size p lo = true ∧ (numOf (L (restB s p lo))).2 ≠ 0 ∧ 0 ≤ most ∧ ((numOf (L (restB s p lo))).1 : Int) ≤ most ∧ (numOf (L (restB s p lo))).1 + (numOf (L (restB s p lo))).2 ≤ (restB s p lo).size) : readT s p lo most = some (numOf (L (restB s p lo))) := by unfold readT; rw [if_pos h]
/-- The text of an answer. -/
@[irreducible] def textB (b : ByteArray) : Option (Nat × Nat) → ByteArray
  | some (n, k) => b.extract k (k + n)
  | none => ⟨#[]⟩
theorem textB_some (b : ByteArray) (n k : Nat) : textB b (some (n, k)) = b.extract k (k + n) := by unfold textB; rfl
theorem textB_none (b : ByteArray) : textB b none = ⟨#[]⟩ := by unfold textB; rfl
theorem refReadText_any (s : ByteArray) (p : Int) (lo : Bool) (most : Int) (hs : s.size ≤ 9223372036854775807) (hm : -9223372036854775808 ≤ most ∧ most ≤ 9223372036854775807) (w : World) : Calls Try.prog 21 #[rd s p lo, .int .i64 most] w fun e w' => e = .returned (.tuple #[.string (textB (restB s p lo) (readT s p lo most)), rdo s p ((readT s p lo most).map fun x => x.1 + x.2)]) ∧ Below w.heap.size w w' := by
  have KR := Lib.hid (fun W => refRest_any s p lo hs W)
  have KN := Lib.hid (fun W => refNum_any (restB s p lo) (Nat.le_trans (restB_size s p lo) hs) W)
  have KG := Lib.hid (fun W => refGone_any s p lo W)
  have NO := Lib.hid (@readT_none s p lo most)
  have YES := Lib.hid (@readT_some s p lo most)
  have NL := Lib.hid (numOf_le (L (restB s p lo)))
  have FIT : Hid (∀ k : Nat, okR s.size p lo = true → k ≤ (restB s p lo).size → lo = false ∧ ∃ i : Nat, p = i ∧ i + k ≤ s.size) := by
    intro k h hk
    obtain ⟨rfl, i, rfl, hi⟩ := okR_yes h
    rw [restB_yes hi, ByteArray.size_extract] at hk
    exact ⟨rfl, i, rfl, by omega⟩
  rw [L_len] at NL
  obtain ⟨b, hb⟩ : ∃ b, b = restB s p lo := ⟨_, rfl⟩
  obtain ⟨ok, hok⟩ : ∃ x, x = okR s.size p lo := ⟨_, rfl⟩
  have HBB := Lib.hid hb.symm
  have hb9 : b.size ≤ s.size := by rw [hb]; exact restB_size s p lo
  rw [← hb] at KR KN NO YES NL FIT
  rw [← hok] at KR NO YES FIT
  clear hb hok
  obtain ⟨nn, hn⟩ : ∃ n, n = (numOf (L b)).1 := ⟨_, rfl⟩
  obtain ⟨kk, hk⟩ : ∃ n, n = (numOf (L b)).2 := ⟨_, rfl⟩
  have hnk : numOf (L b) = (nn, kk) := by rw [hn, hk]
  rw [hnk] at KN NO YES NL
  have nl := NL.out
  obtain ⟨g, hg⟩ : ∃ g, w.heap.size = g := ⟨_, rfl⟩
  have M := Duo.new w #[.string s, .int .i64 p, .bool lo] #[.string ⟨#[]⟩, .int .i64 0, .bool false] 51 51
  rw [hg] at M
  clear hnk hn hk NL
  go_enter Try.func21, Try.ntmps21
  go_wp2_with fail
  clear hg
  generalize (w.alloc (.cells #[.string s, .int .i64 p, .bool lo] 51)).alloc (.cells #[.string ⟨#[]⟩, .int .i64 0, .bool false] 51) = W at *
  generalize g + 1 = r at *
  obtain ⟨c0, c1, c2⟩ := M.bg.three
  go_wp2_with fail
  clear c0 c1 c2
  refine (KR.out _).mono ?_
  rintro e W1 ⟨rfl, B1⟩
  replace M := M.next B1
  clear B1
  go_wp2_with fail
  refine (KN.out _).mono ?_
  rintro e W2 ⟨rfl, B2⟩
  replace M := M.next B2
  clear B2
  obtain ⟨c0, c1, c2⟩ := M.bg.three
  obtain ⟨k0, k1, k2⟩ := M.br.three
  have m0 := M.br.melt 0; have m1 := M.br.melt 1; have m2 := M.br.melt 2
  by_cases h : ok = true ∧ kk ≠ 0 ∧ 0 ≤ most ∧ (nn : Int) ≤ most ∧ nn + kk ≤ b.size
  · have R := Lib.hid (YES.out h)
    obtain ⟨rfl, h1, h2, h3, h4⟩ := h
    obtain ⟨rfl, i, rfl, hi⟩ := FIT.out (nn + kk) rfl h4
    have k9 : ((kk : Int) == 0) = false := by simpa using h1
    obtain ⟨m, rfl⟩ := Int.eq_ofNat_of_zero_le h2
    obtain ⟨d, hd⟩ : ∃ d, b.size = kk + d := ⟨b.size - kk, by omega⟩
    have n8 : ¬ (m : Int) < 0 := by omega
    have n9 : ¬ m < nn := by omega
    have n7 : ¬ d < nn := by omega
    have w1 : IntKind.u64.wrap (m : Int) = m := by rw [IntKind.wrap_u64]; omega
    have w2 : IntKind.i64.wrap ((b.size : Int) - kk) = d := by rw [IntKind.wrap_i64]; omega
    have w3 : IntKind.u64.wrap (d : Int) = d := by rw [IntKind.wrap_u64]; omega
    have w4 : IntKind.i64.wrap (nn : Int) = nn := by rw [IntKind.wrap_i64]; omega
    obtain ⟨e, he⟩ : ∃ e : Nat, e = kk + nn := ⟨_, rfl⟩
    have w5 : IntKind.i64.wrap ((kk : Int) + nn) = e := by rw [he, IntKind.wrap_i64]; omega
    have w6 : IntKind.i64.wrap ((i : Int) + kk) = (i : Int) + kk := by rw [IntKind.wrap_i64]; omega
    have s1 : (e : Int) ≤ b.size := by omega
    have s2 : (kk : Int) ≤ e := by omega
    have s3 : (0 : Int) ≤ kk := by omega
    have hsl : ∀ W : World, (Instr.slice 9 (.string b) (some (.int .i64 (kk : Int))) (some (.int .i64 (e : Int))) none).run Try.prog W = .ok (.string (b.extract kk e)) W := fun W => run_slice_string W 9 b .i64 .i64 (kk : Int) (e : Int) Try.underlying9 s3 s2 s1
    have HE := Lib.hid he
    obtain ⟨j, hj⟩ : ∃ j : Int, j = (i : Int) + kk + nn := ⟨_, rfl⟩
    have ew : IntKind.i64.wrap ((i : Int) + kk + nn) = j := by rw [hj, IntKind.wrap_i64]; omega
    have HJ := Lib.hid hj
    clear h1 h2 h3 h4 YES NO FIT hj hi he
    go_wp2_with fail
    go_region
    all_goals go_wp2_with fail
    clear c0 c1 c2 k0 k1 k2 m0 m1 m2
    replace M := (M.put3 (.string s) (.int .i64 j) (.bool false)).drew
    generalize (((W2.setCell ⟨r, 0, none⟩ (.string s)).setCell ⟨r, 1, none⟩ (.int .i64 j)).setCell ⟨r, 2, none⟩ (.bool false)).drew = W9 at *
    obtain ⟨z0, z1, z2⟩ := M.br.three
    exact bodyPost_ret (v := .tuple #[.string (b.extract kk e), rd s j false]) (by simp [results, Try.results21, go_sem, z0, z1, z2]) rfl ⟨by rw [R.out, HJ.out, HE.out, HBB.out, textB_some, Int.add_assoc, Int.add_comm (kk : Int)]; rfl, M.bl⟩
  · have R := Lib.hid (NO.out h)
    clear YES NO FIT
    have hc : ok = false ∨ (ok = true ∧ ((kk : Int) == 0) = true) ∨ (ok = true ∧ ((kk : Int) == 0) = false ∧ most < 0) ∨
        (ok = true ∧ ((kk : Int) == 0) = false ∧ ∃ m : Nat, most = m ∧ m < nn) ∨ (ok = true ∧ ((kk : Int) == 0) = false ∧ ∃ m d : Nat, most = m ∧ ¬ m < nn ∧ b.size = kk + d ∧ d < nn) := by
      cases ok
      · exact Or.inl rfl
      · refine Or.inr ?_
        by_cases k9 : kk = 0
        · exact Or.inl ⟨rfl, by simpa using k9⟩
        · refine Or.inr ?_
          by_cases k8 : most < 0
          · exact Or.inl ⟨rfl, by simpa using k9, k8⟩
          · refine Or.inr ?_
            obtain ⟨m, rfl⟩ := Int.eq_ofNat_of_zero_le (Int.not_lt.1 k8)
            by_cases k7 : m < nn
            · exact Or.inl ⟨rfl, by simpa using k9, m, rfl, k7⟩
            · exact Or.inr ⟨rfl, by simpa using k9, m, b.size - kk, rfl, k7, by omega, Nat.lt_of_not_le fun h9 => h ⟨rfl, k9, by omega, by omega, by omega⟩⟩
    clear h
    rcases hc with rfl | ⟨rfl, k9⟩ | ⟨rfl, k9, k8⟩ | ⟨rfl, k9, m, rfl, n9⟩ | ⟨rfl, k9, m, d, rfl, n9, hd, n7⟩
    all_goals
      try have n8 : ¬ (m : Int) < 0 := by omega
      try have w1 : IntKind.u64.wrap (m : Int) = m := by rw [IntKind.wrap_u64]; omega
      try have w2 : IntKind.i64.wrap ((b.size : Int) - kk) = d := by rw [IntKind.wrap_i64]; omega
      try have w3 : IntKind.u64.wrap (d : Int) = d := by rw [IntKind.wrap_u64]; omega
      go_wp2_with fail
      clear c0 c1 c2 k0 k1 k2 m0 m1 m2
      refine (KG.out _).mono ?_
      rintro e W3 ⟨rfl, B3⟩
      replace M := M.next B3
      clear B3
      obtain ⟨k0, k1, k2⟩ := M.br.three
      have m0 := M.br.melt 0; have m1 := M.br.melt 1; have m2 := M.br.melt 2
      go_wp2_with fail
      clear k0 k1 k2 m0 m1 m2
      replace M := (M.put3 (.string s) (.int .i64 p) (.bool true))
      generalize (((W3.setCell ⟨r, 0, none⟩ (.string s)).setCell ⟨r, 1, none⟩ (.int .i64 p)).setCell ⟨r, 2, none⟩ (.bool true)) = W9 at *
      obtain ⟨z0, z1, z2⟩ := M.br.three
      exact bodyPost_ret (v := .tuple #[.string ⟨#[]⟩, rd s p true]) (by simp [results, Try.results21, go_sem, z0, z1, z2]) rfl ⟨by rw [R.out, textB_none]; rfl, M.bl⟩
end Go.Proofs.Ythbgbgobfoecoaa
namespace Go.Proofs.Ythbgbgobfoecoaa
open Go.RowKit
set_option linter.unusedVariables false
set_option linter.unusedSimpArgs false
set_option maxHeartbeats 2000000
set_option maxRecDepth 100000
/-- Four bytes that were made anew, as a text. -/
theorem conv_four (W : World) (a b c d : UInt8) (n : Nat) : (convert 36 9 (.slice (some ⟨W.heap.size, 0, none⟩) 4 n)).run Try.prog (W.alloc (.cells #[.int .u8 (a.toNat : Int), .int .u8 (b.toNat : Int), .int .u8 (c.toNat : Int), .int .u8 (d.toNat : Int)] 5)) = .ok (.string (bs [a, b, c, d])) (W.alloc (.cells #[.int .u8 (a.toNat : Int), .int .u8 (b.toNat : Int), .int .u8 (c.toNat : Int), .int .u8 (d.toNat : Int)] 5)) := by
  exact run_convert_bytes_back _ 36 9 5 ⟨W.heap.size, 0, none⟩ n [a, b, c, d] Try.underlying36 Try.underlying5 Try.underlying9 (fun j hj => by
    have hj0 : j < 4 := by simpa using hj
    have e : (⟨W.heap.size, 0, none⟩ : Addr).add j = ⟨W.heap.size, j, none⟩ := by unfold Addr.add; split <;> simp_all
    rw [e]
    show (match (W.alloc (.cells #[.int .u8 (a.toNat : Int), .int .u8 (b.toNat : Int), .int .u8 (c.toNat : Int), .int .u8 (d.toNat : Int)] 5)).heap[W.heap.size]? with | some (.cells c _ _) => if (none : Option Nat).isSome then none else c[j]? | _ => none) = _
    rw [heap_alloc_new]
    rcases j with _ | _ | _ | _ | j <;> first | rfl | (exfalso; omega))
/-- The bytes of a word, as numbers. -/
theorem le4_is (x : BitVec 32) : ∃ a b c d : UInt8, Crc.le4 x = [a, b, c, d] ∧ x.toNat % 256 = a.toNat ∧ x.toNat / 256 % 256 = b.toNat ∧ x.toNat / 65536 % 256 = c.toNat ∧ x.toNat / 16777216 = d.toNat := by
  refine ⟨_, _, _, _, rfl, ?_, ?_, ?_, ?_⟩ <;> show _ = BitVec.toNat (BitVec.setWidth 8 _) <;> rw [BitVec.toNat_setWidth]
  · rw [BitVec.toNat_ushiftRight, Nat.shiftRight_eq_div_pow]
  · rw [BitVec.toNat_ushiftRight, Nat.shiftRight_eq_div_pow]
  · rw [BitVec.toNat_ushiftRight, Nat.shiftRight_eq_div_pow]; have := x.isLt; omega
theorem refFSum_any (s : ByteArray) (hs : s.size ≤ 100000) (w : World) : Calls Try.prog 18 #[.string s] w fun e w' => e = .returned (.string (bs (fsum (L s)))) ∧ Below w.heap.size w w' := by
  have KM := Lib.hid (fun W => Crc.refMore_any 0#32 s hs W)
  have J0 : Crc.J 0#32 = 0 := by unfold Crc.J; rfl
  rw [J0] at KM
  obtain ⟨a, b, c, d, E, ea, eb, ec, ed⟩ := le4_is (Crc.crcMore 0#32 (L s))
  have ER := Lib.hid (show bs [a, b, c, d] = bs (fsum (L s)) by unfold fsum; rw [E])
  have hx : (Crc.crcMore 0#32 (L s)).toNat < 4294967296 := (Crc.crcMore 0#32 (L s)).isLt
  clear E J0
  have HX : Crc.J (Crc.crcMore 0#32 (L s)) = ((Crc.crcMore 0#32 (L s)).toNat : Int) := by unfold Crc.J; rfl
  rw [HX] at KM
  clear HX
  generalize (Crc.crcMore 0#32 (L s)).toNat = x at *
  go_enter Try.func18, Try.ntmps18
  go_wp2_with fail
  refine (KM.out _).mono ?_
  rintro e W ⟨rfl, rfl⟩
  have t1 : Int.tmod (x : Int) 256 = (a.toNat : Int) := by rw [show (256 : Int) = ((256 : Nat) : Int) from rfl, ← Int.ofNat_tmod, ea]
  have t2 : Int.tmod (Int.tdiv (x : Int) 256) 256 = (b.toNat : Int) := by rw [show (256 : Int) = ((256 : Nat) : Int) from rfl, ← Int.ofNat_tdiv, ← Int.ofNat_tmod, eb]
  have t3 : Int.tmod (Int.tdiv (x : Int) 65536) 256 = (c.toNat : Int) := by rw [show (256 : Int) = ((256 : Nat) : Int) from rfl, show (65536 : Int) = ((65536 : Nat) : Int) from rfl, ← Int.ofNat_tdiv, ← Int.ofNat_tmod, ec]
  have t4 : Int.tdiv (x : Int) 16777216 = (d.toNat : Int) := by rw [show (16777216 : Int) = ((16777216 : Nat) : Int) from rfl, ← Int.ofNat_tdiv, ed]
  have u2 : (x : Int) / 256 % 256 = (b.toNat : Int) := by omega
  have u3 : (x : Int) / 65536 % 256 = (c.toNat : Int) := by omega
  have hcv := conv_four w a b c d 4
  go_wp2_with fail
  go_ret
  exact ⟨by rw [ER.out]; rfl, below_one w _⟩
end Go.Proofs.Ythbgbgobfoecoaa
namespace Go.Proofs.Ythbgbgobfoecoaa
open Go.RowKit
/-- Blocks of the call's own, none twice; below them nothing has turned. -/
structure Own (w : World) (l : List (Nat × Array Value)) (W : World) : Prop where
  box : ∀ (k g : Nat) (cs : Array Value), l[k]? = some (g, cs) → w.heap.size ≤ g ∧ Box W g cs
  ne : ∀ (i j g g' : Nat) (cs cs' : Array Value), l[i]? = some (g, cs) → l[j]? = some (g', cs') → i ≠ j → g ≠ g'
  bl : Below w.heap.size w W
section
variable {w W W' : World} {l : List (Nat × Array Value)}
theorem Own.new (w : World) : Own w [] w := ⟨fun k g cs h => by simp at h, fun i j g g' cs cs' h => by simp at h, Below.refl _ _⟩
theorem Own.drew (h : Own w l W) : Own w l W.drew := ⟨fun k g cs hk => ⟨(h.box k g cs hk).1, (h.box k g cs hk).2.drew⟩, h.ne, h.bl.drew⟩
theorem Own.next (h : Own w l W) (hb : Below W.heap.size W W') : Own w l W' := ⟨fun k g cs hk => ⟨(h.box k g cs hk).1, (h.box k g cs hk).2.next hb⟩, h.ne, below_step h.bl hb⟩
theorem Own.set (h : Own w l W) (k : Nat) {g : Nat} {cs : Array Value} (hk : l[k]? = some (g, cs)) (i : Nat) (u : Value) : Own w (l.set k (g, cs.setIfInBounds i u)) (W.setCell ⟨g, i, none⟩ u) := by
  have lk : k < l.length := (List.getElem?_eq_some_iff.1 hk).1
  have back : ∀ (j g' : Nat) (ds : Array Value), (l.set k (g, cs.setIfInBounds i u))[j]? = some (g', ds) → (j = k ∧ g' = g ∧ ds = cs.setIfInBounds i u) ∨ (j ≠ k ∧ l[j]? = some (g', ds)) := by
    intro j g' ds hj
    rw [List.getElem?_set] at hj
    split at hj
    · rename_i e
      subst e
      first | (rw [if_pos lk] at hj) | skip
      injection hj with hj
      injection hj with e1 e2
      exact Or.inl ⟨rfl, e1.symm, e2.symm⟩
    · rename_i e
      exact Or.inr ⟨fun e' => e e'.symm, hj⟩
  refine ⟨fun j g' ds hj => ?_, fun i' j g1 g2 c1 c2 h1 h2 hne => ?_, below_set h.bl (h.box k g cs hk).1 u⟩
  · rcases back j g' ds hj with ⟨_, rfl, rfl⟩ | ⟨hj1, hj2⟩
    · exact ⟨(h.box k g' cs hk).1, (h.box k g' cs hk).2.set i u⟩
    · exact ⟨(h.box j g' ds hj2).1, (h.box j g' ds hj2).2.far (h.ne j k g' g ds cs hj2 hk hj1) u⟩
  · rcases back _ _ _ h1 with ⟨rfl, rfl, rfl⟩ | ⟨a1, a2⟩
    · rcases back _ _ _ h2 with ⟨rfl, rfl, rfl⟩ | ⟨b1, b2⟩
      · exact absurd rfl hne
      · exact h.ne _ _ _ _ _ _ hk b2 hne
    · rcases back _ _ _ h2 with ⟨rfl, rfl, rfl⟩ | ⟨b1, b2⟩
      · exact h.ne _ _ _ _ _ _ a2 hk hne
      · exact h.ne _ _ _ _ _ _ a2 b2 hne
theorem Own.alloc (h : Own w l W) {g : Nat} (hg : W.heap.size = g) (cs : Array Value) (t : TypeId) : Own w (l ++ [(g, cs)]) (W.alloc (.cells cs t)) := by
  subst hg
  have back : ∀ (j g' : Nat) (ds : Array Value), (l ++ [(W.heap.size, cs)])[j]? = some (g', ds) → (j = l.length ∧ g' = W.heap.size ∧ ds = cs) ∨ (j < l.length ∧ l[j]? = some (g', ds)) := by
    intro j g' ds hj
    by_cases e : j < l.length
    · rw [List.getElem?_append_left e] at hj; exact Or.inr ⟨e, hj⟩
    · rw [List.getElem?_append_right (by omega)] at hj
      by_cases e2 : j = l.length
      · subst e2
        rw [Nat.sub_self] at hj
        injection hj with hj
        injection hj with e1 e2
        exact Or.inl ⟨rfl, e1.symm, e2.symm⟩
      · rw [List.getElem?_eq_none (by simp; omega)] at hj; cases hj
  refine ⟨fun j g' ds hj => ?_, fun i j g1 g2 c1 c2 h1 h2 hne => ?_, below_al h.bl _⟩
  · rcases back j g' ds hj with ⟨_, rfl, rfl⟩ | ⟨_, hj2⟩
    · exact ⟨h.bl.size, Box.new W ds t⟩
    · exact ⟨(h.box j g' ds hj2).1, (h.box j g' ds hj2).2.alloc _⟩
  · rcases back _ _ _ h1 with ⟨rfl, rfl, rfl⟩ | ⟨a1, a2⟩
    · rcases back _ _ _ h2 with ⟨rfl, rfl, rfl⟩ | ⟨b1, b2⟩
      · exact absurd rfl hne
      · have := (h.box _ _ _ b2).2.lt; omega
    · rcases back _ _ _ h2 with ⟨rfl, rfl, rfl⟩ | ⟨b1, b2⟩
      · have := (h.box _ _ _ a2).2.lt; omega
      · exact h.ne _ _ _ _ _ _ a2 b2 hne
theorem Own.put3 (h : Own w l W) (k : Nat) {g : Nat} {z0 z1 z2 : Value} (hk : l[k]? = some (g, #[z0, z1, z2])) (a b c : Value) :
    Own w (l.set k (g, #[a, b, c])) (((W.setCell ⟨g, 0, none⟩ a).setCell ⟨g, 1, none⟩ b).setCell ⟨g, 2, none⟩ c) := by
  have lk : k < l.length := (List.getElem?_eq_some_iff.1 hk).1
  have h1 := h.set k hk 0 a
  have h2 := h1.set k (List.getElem?_set_self lk) 1 b
  rw [List.set_set] at h2
  have h3 := h2.set k (List.getElem?_set_self lk) 2 c
  rw [List.set_set] at h3
  exact h3
theorem Own.put2 (h : Own w l W) (k : Nat) {g : Nat} {z0 z1 : Value} (hk : l[k]? = some (g, #[z0, z1])) (a b : Value) :
    Own w (l.set k (g, #[a, b])) ((W.setCell ⟨g, 0, none⟩ a).setCell ⟨g, 1, none⟩ b) := by
  have lk : k < l.length := (List.getElem?_eq_some_iff.1 hk).1
  have h1 := h.set k hk 0 a
  have h2 := h1.set k (List.getElem?_set_self lk) 1 b
  rw [List.set_set] at h2
  exact h2
end
theorem keep_drew {w : World} {p : Addr} {v : Value} (h : w.cell? p = some v) : w.drew.cell? p = some v := h
theorem size_alloc (w : World) (o : Obj) : (w.alloc o).heap.size = w.heap.size + 1 := by simp
end Go.Proofs.Ythbgbgobfoecoaa
