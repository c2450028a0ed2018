/- Blocks that a call has made, and writes into. The document's answers: the walks of rest and gone. The document's answers: the walk of ReadNumber. The document's answers: the walk of ReadText. Blocks of a call's own, as many as there are. The document's answers: the walk of ReadWide. The document's answers: the walk of Wide. -/
import Derived.Test.YtacobmnghdibaaaJ00
namespace Go.Proofs.Ytacobmnghdibaaa
open Go.RowKit
theorem below_al {w a : World} (h : Below w.heap.size w a) (o : Obj) : Below w.heap.size w (a.alloc o) := h.alloc h.size o

/-- Block g is just these cells, and may be written. -/
def Box (w : World) (g : Nat) (cs : Array Value) : Prop := ∃ t, w.heap[g]? = some (.cells cs t (0, 0))
section
variable {w w' : World} {g : Nat} {cs : Array Value}
theorem Box.lt (h : Box w g cs) : g < w.heap.size := by obtain ⟨_, h⟩ := h; exact (Array.getElem?_eq_some_iff.1 h).1
theorem Box.cell (h : Box w g cs) {i : Nat} {v : Value} (hi : cs[i]? = some v) : w.cell? ⟨g, i, none⟩ = some v := by
  obtain ⟨_, h⟩ := h
  simp [World.cell?, h, hi]
theorem Box.melt (h : Box w g cs) (i : Nat) : w.frozen? ⟨g, i, none⟩ = false := by
  obtain ⟨_, h⟩ := h
  simp [World.frozen?, h]
theorem Box.drew (h : Box w g cs) : Box w.drew g cs := h
theorem Box.next (h : Box w g cs) (hb : Below w.heap.size w w') : Box w' g cs := by
  have l := h.lt
  obtain ⟨t, h⟩ := h
  exact ⟨t, (hb.block g l).trans h⟩
theorem Box.alloc (h : Box w g cs) (o : Obj) : Box (w.alloc o) g cs := h.next ((Below.refl _ _).alloc (Nat.le_refl _) o)
theorem Box.far (h : Box w g cs) {p : Addr} (hp : g ≠ p.block) (u : Value) : Box (w.setCell p u) g cs := by
  obtain ⟨t, h⟩ := h
  exact ⟨t, (Below.heap_setCell w p u g hp).trans h⟩
theorem Box.set (h : Box w g cs) (i : Nat) (u : Value) : Box (w.setCell ⟨g, i, none⟩ u) g (cs.setIfInBounds i u) := by
  obtain ⟨t, h⟩ := h
  exact ⟨t, by simp [World.setCell, Array.getElem?_modify, h]⟩
theorem Box.new (w : World) (cs : Array Value) (t : TypeId) : Box (w.alloc (.cells cs t)) w.heap.size cs := ⟨t, heap_alloc_new w _⟩
end
theorem below_set {B : Nat} {w W : World} (h : Below B w W) {p : Addr} (hp : B ≤ p.block) (u : Value) : Below B w (W.setCell p u) :=
  ⟨h.os, h.tape, h.output, by rw [show (W.setCell p u).heap.size = W.heap.size by simp [World.setCell]]; exact h.size, fun k hk => (Below.heap_setCell W p u k (by omega)).trans (h.block k hk)⟩

/-- Duo blocks of the call's own; below them nothing has turned. -/
structure Duo (w : World) (g r : Nat) (cs ds : Array Value) (W : World) : Prop where
  bg : Box W g cs
  br : Box W r ds
  ne : g ≠ r
  hg : w.heap.size ≤ g
  hr : w.heap.size ≤ r
  bl : Below w.heap.size w W
section
variable {w W W' : World} {g r : Nat} {cs ds : Array Value}
theorem Duo.drew (h : Duo w g r cs ds W) : Duo w g r cs ds W.drew := ⟨h.bg, h.br, h.ne, h.hg, h.hr, h.bl.drew⟩
theorem Duo.next (h : Duo w g r cs ds W) (hb : Below W.heap.size W W') : Duo w g r cs ds W' := ⟨h.bg.next hb, h.br.next hb, h.ne, h.hg, h.hr, below_step h.bl hb⟩
theorem Duo.set (h : Duo w g r cs ds W) (i : Nat) (u : Value) : Duo w g r (cs.setIfInBounds i u) ds (W.setCell ⟨g, i, none⟩ u) :=
  ⟨h.bg.set i u, h.br.far (Ne.symm h.ne) u, h.ne, h.hg, h.hr, below_set h.bl h.hg u⟩
theorem Duo.new (w : World) (cs ds : Array Value) (t t' : TypeId) : Duo w w.heap.size (w.heap.size + 1) cs ds ((w.alloc (.cells cs t)).alloc (.cells ds t')) :=
  ⟨(Box.new w cs t).alloc _, by simpa using Box.new (w.alloc (.cells cs t)) ds t', by omega, Nat.le_refl _, by omega, below_al ((Below.refl _ _).alloc (Nat.le_refl _) _) _⟩
end
theorem Duo.swap {w W : World} {g r : Nat} {cs ds : Array Value} (h : Duo w g r cs ds W) : Duo w r g ds cs W := ⟨h.br, h.bg, Ne.symm h.ne, h.hr, h.hg, h.bl⟩
theorem Duo.put4 {w W : World} {g r : Nat} {cs : Array Value} {z0 z1 z2 z3 : Value} (h : Duo w g r cs #[z0, z1, z2, z3] W) (a b c d : Value) :
    Duo w g r cs #[a, b, c, d] ((((W.setCell ⟨r, 0, none⟩ a).setCell ⟨r, 1, none⟩ b).setCell ⟨r, 2, none⟩ c).setCell ⟨r, 3, none⟩ d) :=
  ((((h.swap.set 0 a).set 1 b).set 2 c).set 3 d).swap
/-- One block of the call's own. -/
structure One (w : World) (g : Nat) (cs : Array Value) (W : World) : Prop where
  bg : Box W g cs
  hg : w.heap.size ≤ g
  bl : Below w.heap.size w W
section
variable {w W W' : World} {g : Nat} {cs : Array Value}
theorem One.drew (h : One w g cs W) : One w g cs W.drew := ⟨h.bg, h.hg, h.bl.drew⟩
theorem One.next (h : One w g cs W) (hb : Below W.heap.size W W') : One w g cs W' := ⟨h.bg.next hb, h.hg, below_step h.bl hb⟩
theorem One.set (h : One w g cs W) (i : Nat) (u : Value) : One w g (cs.setIfInBounds i u) (W.setCell ⟨g, i, none⟩ u) := ⟨h.bg.set i u, h.hg, below_set h.bl h.hg u⟩
theorem One.new (w : World) (cs : Array Value) (t : TypeId) : One w w.heap.size cs (w.alloc (.cells cs t)) := ⟨Box.new w cs t, Nat.le_refl _, (Below.refl _ _).alloc (Nat.le_refl _) _⟩
theorem One.put4 {z0 z1 z2 z3 : Value} (h : One w g #[z0, z1, z2, z3] W) (a b c d : Value) :
    One w g #[a, b, c, d] ((((W.setCell ⟨g, 0, none⟩ a).setCell ⟨g, 1, none⟩ b).setCell ⟨g, 2, none⟩ c).setCell ⟨g, 3, none⟩ d) :=
  (((h.set 0 a).set 1 b).set 2 c).set 3 d
end
theorem Box.two {w : World} {g : Nat} {a b : Value} (h : Box w g #[a, b]) : w.cell? ⟨g, 0, none⟩ = some a ∧ w.cell? ⟨g, 1, none⟩ = some b := ⟨h.cell rfl, h.cell rfl⟩
theorem One.two {w W : World} {g : Nat} {cs : Array Value} (h : One w g cs W) (ds : Array Value) (t : TypeId) : Duo w g W.heap.size cs ds (W.alloc (.cells ds t)) :=
  ⟨h.bg.alloc _, Box.new _ _ _, by have := h.bg.lt; omega, h.hg, h.bl.size, below_al h.bl _⟩
theorem Duo.put2 {w W : World} {g r : Nat} {cs : Array Value} {z0 z1 : Value} (h : Duo w g r cs #[z0, z1] W) (a b : Value) :
    Duo w g r cs #[a, b] ((W.setCell ⟨r, 0, none⟩ a).setCell ⟨r, 1, none⟩ b) :=
  ((h.swap.set 0 a).set 1 b).swap
theorem Box.three {w : World} {g : Nat} {a b c : Value} (h : Box w g #[a, b, c]) : w.cell? ⟨g, 0, none⟩ = some a ∧ w.cell? ⟨g, 1, none⟩ = some b ∧ w.cell? ⟨g, 2, none⟩ = some c := ⟨h.cell rfl, h.cell rfl, h.cell rfl⟩
theorem Duo.put3 {w W : World} {g r : Nat} {cs : Array Value} {z0 z1 z2 : Value} (h : Duo w g r cs #[z0, z1, z2] W) (a b c : Value) :
    Duo w g r cs #[a, b, c] (((W.setCell ⟨r, 0, none⟩ a).setCell ⟨r, 1, none⟩ b).setCell ⟨r, 2, none⟩ c) :=
  (((h.swap.set 0 a).set 1 b).set 2 c).swap
/-- A reader. -/
abbrev rd (s : ByteArray) (p : Int) (lo : Bool) : Value := .agg #[.string s, .int .i64 p, .bool lo]
/-- May anything be asked of it? -/
def okR (n : Nat) (p : Int) (lo : Bool) : Bool := !lo && decide (0 ≤ p ∧ p ≤ (n : Int))
theorem okR_no {n : Nat} {p : Int} {lo : Bool} (h : okR n p lo = false) : lo = true ∨ p < 0 ∨ (n : Int) < p := by
  unfold okR at h
  cases lo
  · simp at h
    right
    omega
  · exact Or.inl rfl
theorem okR_yes {n : Nat} {p : Int} {lo : Bool} (h : okR n p lo = true) : lo = false ∧ ∃ i : Nat, p = i ∧ i ≤ n := by
  unfold okR at h
  cases lo
  · simp at h
    exact ⟨rfl, p.toNat, by omega, by omega⟩
  · cases h
end Go.Proofs.Ytacobmnghdibaaa
namespace Go.Proofs.Ytacobmnghdibaaa
open Go.RowKit
set_option linter.unusedVariables false
set_option linter.unusedSimpArgs false
set_option maxHeartbeats 2000000
set_option maxRecDepth 100000
theorem refRest_yes (s : ByteArray) (i : Nat) (hi : i ≤ s.size) (hs : s.size ≤ 9223372036854775807) (w : World) : Calls Try.prog 64 #[rd s i false] w fun e w' => e = .returned (.tuple #[.string (s.extract i s.size), .bool true]) ∧ Below w.heap.size w w' := by
  have BL : Below w.heap.size w (w.alloc (.cells #[.string s, .int .i64 i, .bool false] 42)) := (Below.refl _ _).alloc (Nat.le_refl _) _
  have h1 : ¬ (s.size : Int) < i := by omega
  have h2 : (i : Int) ≤ s.size := by omega
  go_enter Try.func64, Try.ntmps64
  go_wp2_with fail
  go_ret2
  exact ⟨rfl, BL⟩
theorem refRest_no (s : ByteArray) (p : Int) (lo : Bool) (h : okR s.size p lo = false) (w : World) : Calls Try.prog 64 #[rd s p lo] w fun e w' => e = .returned (.tuple #[.string ⟨#[]⟩, .bool false]) ∧ Below w.heap.size w w' := by
  have BL : Below w.heap.size w (w.alloc (.cells #[.string s, .int .i64 p, .bool lo] 42)) := (Below.refl _ _).alloc (Nat.le_refl _) _
  have h := okR_no h
  cases lo
  · by_cases hp : p < 0
    · go_enter Try.func64, Try.ntmps64
      go_wp2_with fail
      go_ret2
      exact ⟨rfl, BL⟩
    · have hq : (s.size : Int) < p := by
        rcases h with h | h | h
        · cases h
        · omega
        · exact h
      clear h
      go_enter Try.func64, Try.ntmps64
      go_wp2_with fail
      go_ret2
      exact ⟨rfl, BL⟩
  · clear h
    go_enter Try.func64, Try.ntmps64
    go_wp2_with fail
    go_ret2
    exact ⟨rfl, BL⟩
theorem refGone_any (s : ByteArray) (p : Int) (lo : Bool) (w : World) : Calls Try.prog 66 #[rd s p lo] w fun e w' => e = .returned (rd s p true) ∧ Below w.heap.size w w' := by
  go_enter Try.func66, Try.ntmps66
  go_wp2_with fail
  have M := Duo.new w #[.string s, .int .i64 p, .bool lo] #[.string s, .int .i64 p, .bool true] 42 42
  obtain ⟨z0, z1, z2⟩ := M.br.three
  have BB := Lib.hid M.bl
  clear M
  generalize (w.alloc (.cells #[.string s, .int .i64 p, .bool lo] 42)).alloc (.cells #[.string s, .int .i64 p, .bool true] 42) = W at *
  exact bodyPost_ret (v := rd s p true) (by simp [results, Try.results66, go_sem, z0, z1, z2]) rfl ⟨rfl, BB.out⟩
end Go.Proofs.Ytacobmnghdibaaa
namespace Go.Proofs.Ytacobmnghdibaaa
open Go.RowKit
set_option linter.unusedVariables false
set_option linter.unusedSimpArgs false
set_option maxHeartbeats 2000000
set_option maxRecDepth 100000
/-- What is to be read. -/
@[irreducible] def restB (s : ByteArray) (p : Int) (lo : Bool) : ByteArray := if okR s.size p lo = true then s.extract p.toNat s.size else ⟨#[]⟩
theorem restB_no {s : ByteArray} {p : Int} {lo : Bool} (h : okR s.size p lo = false) : restB s p lo = ⟨#[]⟩ := by unfold restB; rw [if_neg (by rw [h]; decide)]
theorem restB_yes {s : ByteArray} {i : Nat} (h : i ≤ s.size) : restB s i false = s.extract i s.size := by
  unfold restB; rw [if_pos (by unfold okR; simp; omega)]; rfl
theorem okR_at {n i : Nat} (h : i ≤ n) : okR n i false = true := by unfold okR; simp; omega
theorem restB_L {s : ByteArray} {i : Nat} (h : i ≤ s.size) : L (restB s i false) = (L s).drop i := by rw [restB_yes h, L_drop]
theorem restB_size (s : ByteArray) (p : Int) (lo : Bool) : (restB s p lo).size ≤ s.size := by
  cases h : okR s.size p lo
  · rw [restB_no h]; exact Nat.zero_le _
  · obtain ⟨rfl, i, rfl, hi⟩ := okR_yes h
    rw [restB_yes hi, ByteArray.size_extract]; omega
theorem refRest_any (s : ByteArray) (p : Int) (lo : Bool) (hs : s.size ≤ 9223372036854775807) (w : World) : Calls Try.prog 64 #[rd s p lo] w fun e w' => e = .returned (.tuple #[.string (restB s p lo), .bool (okR s.size p lo)]) ∧ Below w.heap.size w w' := by
  cases h : okR s.size p lo
  · rw [restB_no h]; exact refRest_no s p lo h w
  · obtain ⟨rfl, i, rfl, hi⟩ := okR_yes h
    rw [restB_yes hi]; exact refRest_yes s i hi hs w
theorem numOf_le (l : List UInt8) : (numOf l).2 ≤ l.length ∧ (numOf l).1 < 18446744073709551616 := by
  cases h : numAt l with
  | none => rw [numOf_none h]; exact ⟨Nat.zero_le _, by decide⟩
  | some x =>
    obtain ⟨n, k⟩ := x
    rw [numOf_some h]
    obtain ⟨a, b, c⟩ := numAt_iff.1 h
    have := congrArg List.length c
    rw [List.length_take] at this
    exact ⟨by show k ≤ _; omega, a⟩
/-- The reader after an answer: behind it, or lost. -/
abbrev rdo (s : ByteArray) (p : Int) : Option Nat → Value
  | some k => rd s (p + k) false
  | none => rd s p true
/-- A number, and how many bytes it has, or none. -/
@[irreducible] def readN (s : ByteArray) (p : Int) (lo : Bool) (most : Nat) : Option (Nat × Nat) :=
  if okR s.size p lo = true ∧ (numOf (L (restB s p lo))).2 ≠ 0 ∧ (numOf (L (restB s p lo))).1 ≤ most then some (numOf (L (restB s p lo))) else none
theorem readN_none {s : ByteArray} {p : Int} {lo : Bool} {most : Nat} (h : ¬ (okR s.size p lo = true ∧ (numOf (L (restB s p lo))).2 ≠ 0 ∧ (numOf (L (restB s p lo))).1 ≤ most)) : readN s p lo most = none := by unfold readN; rw [if_neg h]
theorem readN_some {s : ByteArray} {p : Int} {lo : Bool} {most : Nat} (h : okR s.size p lo = true ∧ (numOf (L (restB s p lo))).2 ≠ 0 ∧ (numOf (L (restB s p lo))).1 ≤ most) : readN s p lo most = some (numOf (L (restB s p lo))) := by unfold readN; rw [if_pos h]
abbrev rdv : Value := .agg #[.string ⟨#[]⟩, .int .i64 0, .bool false]
theorem refReadNumber_any (s : ByteArray) (p : Int) (lo : Bool) (most : Nat) (hs : s.size ≤ 9223372036854775807) (hm : most < 18446744073709551616) (w : World) : Calls Try.prog 36 #[rd s p lo, .int .u64 (most : Int)] w fun e w' => e = .returned (.tuple #[.int .u64 (((readN s p lo most).getD (0, 0)).1 : Int), rdo s p ((readN s p lo most).map Prod.snd)]) ∧ Below w.heap.size w w' := by
  have KR := Lib.hid (fun W => refRest_any s p lo hs W)
  have KN := Lib.hid (fun W => refNum_any (restB s p lo) (Nat.le_trans (restB_size s p lo) hs) W)
  have KG := Lib.hid (fun W => refGone_any s p lo W)
  have NO := Lib.hid (@readN_none s p lo most)
  have YES := Lib.hid (@readN_some s p lo most)
  have NL := Lib.hid (numOf_le (L (restB s p lo)))
  have FIT : Hid (∀ k : Nat, okR s.size p lo = true → k ≤ (restB s p lo).size → lo = false ∧ ∃ i : Nat, p = i ∧ i + k ≤ s.size) := by
    intro k h hk
    obtain ⟨rfl, i, rfl, hi⟩ := okR_yes h
    rw [restB_yes hi, ByteArray.size_extract] at hk
    exact ⟨rfl, i, rfl, by omega⟩
  rw [L_len] at NL
  obtain ⟨b, hb⟩ : ∃ b, b = restB s p lo := ⟨_, rfl⟩
  obtain ⟨ok, hok⟩ : ∃ x, x = okR s.size p lo := ⟨_, rfl⟩
  rw [← hb] at KR KN NO YES NL FIT
  rw [← hok] at KR NO YES FIT
  clear hb hok
  obtain ⟨nn, hn⟩ : ∃ n, n = (numOf (L b)).1 := ⟨_, rfl⟩
  obtain ⟨kk, hk⟩ : ∃ n, n = (numOf (L b)).2 := ⟨_, rfl⟩
  have hnk : numOf (L b) = (nn, kk) := by rw [hn, hk]
  rw [hnk] at KN NO YES NL
  have nl := NL.out
  obtain ⟨g, hg⟩ : ∃ g, w.heap.size = g := ⟨_, rfl⟩
  have M := Duo.new w #[.string s, .int .i64 p, .bool lo] #[.string ⟨#[]⟩, .int .i64 0, .bool false] 42 42
  rw [hg] at M
  clear hnk hn hk NL
  go_enter Try.func36, Try.ntmps36
  go_wp2_with fail
  clear hg
  generalize (w.alloc (.cells #[.string s, .int .i64 p, .bool lo] 42)).alloc (.cells #[.string ⟨#[]⟩, .int .i64 0, .bool false] 42) = W at *
  generalize g + 1 = r at *
  obtain ⟨c0, c1, c2⟩ := M.bg.three
  go_wp2_with fail
  clear c0 c1 c2
  refine (KR.out _).mono ?_
  rintro e W1 ⟨rfl, B1⟩
  replace M := M.next B1
  clear B1
  go_wp2_with fail
  refine (KN.out _).mono ?_
  rintro e W2 ⟨rfl, B2⟩
  replace M := M.next B2
  clear B2
  obtain ⟨c0, c1, c2⟩ := M.bg.three
  obtain ⟨k0, k1, k2⟩ := M.br.three
  have m0 := M.br.melt 0; have m1 := M.br.melt 1; have m2 := M.br.melt 2
  by_cases h : ok = true ∧ kk ≠ 0 ∧ nn ≤ most
  · have R := Lib.hid (YES.out h)
    obtain ⟨rfl, h1, h2⟩ := h
    obtain ⟨rfl, i, rfl, hi⟩ := FIT.out kk rfl nl.1
    have k9 : ((kk : Int) == 0) = false := by simpa using h1
    have n9 : ¬ most < nn := by omega
    obtain ⟨j, hj⟩ : ∃ j : Int, j = (i : Int) + kk := ⟨_, rfl⟩
    have ew : IntKind.i64.wrap ((i : Int) + kk) = j := by rw [hj, IntKind.wrap_i64]; omega
    have HJ := Lib.hid hj
    clear h1 h2 YES NO FIT hj hi
    go_wp2_with fail
    go_region
    all_goals go_wp2_with fail
    clear c0 c1 c2 k0 k1 k2 m0 m1 m2
    replace M := (M.put3 (.string s) (.int .i64 j) (.bool false)).drew
    generalize (((W2.setCell ⟨r, 0, none⟩ (.string s)).setCell ⟨r, 1, none⟩ (.int .i64 j)).setCell ⟨r, 2, none⟩ (.bool false)).drew = W9 at *
    obtain ⟨z0, z1, z2⟩ := M.br.three
    exact bodyPost_ret (v := .tuple #[.int .u64 (nn : Int), rd s j false]) (by simp [results, Try.results36, go_sem, z0, z1, z2]) rfl ⟨by rw [R.out, HJ.out]; rfl, M.bl⟩
  · have R := Lib.hid (NO.out h)
    clear YES NO FIT
    have hc : ok = false ∨ (ok = true ∧ ((kk : Int) == 0) = true) ∨ (ok = true ∧ ((kk : Int) == 0) = false ∧ most < nn) := by
      cases ok
      · exact Or.inl rfl
      · refine Or.inr ?_
        by_cases k9 : kk = 0
        · exact Or.inl ⟨rfl, by simpa using k9⟩
        · exact Or.inr ⟨rfl, by simpa using k9, Nat.lt_of_not_le fun h9 => h ⟨rfl, k9, h9⟩⟩
    clear h
    rcases hc with rfl | ⟨rfl, k9⟩ | ⟨rfl, k9, n9⟩
    all_goals
      go_wp2_with fail
      clear c0 c1 c2 k0 k1 k2 m0 m1 m2
      refine (KG.out _).mono ?_
      rintro e W3 ⟨rfl, B3⟩
      replace M := M.next B3
      clear B3
      obtain ⟨k0, k1, k2⟩ := M.br.three
      have m0 := M.br.melt 0; have m1 := M.br.melt 1; have m2 := M.br.melt 2
      go_wp2_with fail
      clear k0 k1 k2 m0 m1 m2
      replace M := (M.put3 (.string s) (.int .i64 p) (.bool true))
      generalize (((W3.setCell ⟨r, 0, none⟩ (.string s)).setCell ⟨r, 1, none⟩ (.int .i64 p)).setCell ⟨r, 2, none⟩ (.bool true)) = W9 at *
      obtain ⟨z0, z1, z2⟩ := M.br.three
      exact bodyPost_ret (v := .tuple #[.int .u64 0, rd s p true]) (by simp [results, Try.results36, go_sem, z0, z1, z2]) rfl ⟨by rw [R.out]; rfl, M.bl⟩
end Go.Proofs.Ytacobmnghdibaaa
namespace Go.Proofs.Ytacobmnghdibaaa
open Go.RowKit
set_option linter.unusedVariables false
set_option linter.unusedSimpArgs false
set_option maxHeartbeats 2000000
set_option maxRecDepth 100000
/-- How many bytes a text has, and how many its number has, or none. -/
@[irreducible] def readT (s : ByteArray) (p : Int) (lo : Bool) (most : Int) : Option (Nat × Nat) :=
  if okR s.size p lo = true ∧ (numOf (L (restB s p lo))).2 ≠ 0 ∧ 0 ≤ most ∧ ((numOf (L (restB s p lo))).1 : Int) ≤ most ∧ (numOf (L (restB s p lo))).1 + (numOf (L (restB s p lo))).2 ≤ (restB s p lo).size then some (numOf (L (restB s p lo))) else none
theorem readT_none {s : ByteArray} {p : Int} {lo : Bool} {most : Int} (h : ¬ (okR s.size p lo = true ∧ (numOf (L (restB s p lo))).2 ≠ 0 ∧ 0 ≤ most ∧ ((numOf (L (restB s p lo))).1 : Int) ≤ most ∧ (numOf (L (restB s p lo))).1 + (numOf (L (restB s p lo))).2 ≤ (restB s p lo).size)) : readT s p lo most = none := by unfold readT; rw [if_neg h]
theorem readT_some {s : ByteArray} {p : Int} {lo : Bool} {most : Int} (h : okR s.size p lo = true ∧ (numOf (L (restB s p lo))).2 ≠ 0 ∧ 0 ≤ most ∧ ((numOf (L (restB s p lo))).1 : Int) ≤ most ∧ (numOf (L (restB s p lo))).1 + (numOf (L (restB s p lo))).2 ≤ (restB s p lo).size) : readT s p lo most = some (numOf (L (restB s p lo))) := by unfold readT; rw [if_pos h]
/-- The text of an answer. -/
@[irreducible] def textB (b : ByteArray) : Option (Nat × Nat) → ByteArray
  | some (n, k) => b.extract k (k + n)
  | none => ⟨#[]⟩
theorem textB_some (b : ByteArray) (n k : Nat) : textB b (some (n, k)) = b.extract k (k + n) := by unfold textB; rfl
theorem textB_none (b : ByteArray) : textB b none = ⟨#[]⟩ := by unfold textB; rfl
theorem refReadText_any (s : ByteArray) (p : Int) (lo : Bool) (most : Int) (hs : s.size ≤ 9223372036854775807) (hm : -9223372036854775808 ≤ most ∧ most ≤ 9223372036854775807) (w : World) : Calls Try.prog 37 #[rd s p lo, .int .i64 most] w fun e w' => e = .returned (.tuple #[.string (textB (restB s p lo) (readT s p lo most)), rdo s p ((readT s p lo most).map fun x => x.1 + x.2)]) ∧ Below w.heap.size w w' := by
  have KR := Lib.hid (fun W => refRest_any s p lo hs W)
  have KN := Lib.hid (fun W => refNum_any (restB s p lo) (Nat.le_trans (restB_size s p lo) hs) W)
  have KG := Lib.hid (fun W => refGone_any s p lo W)
  have NO := Lib.hid (@readT_none s p lo most)
  have YES := Lib.hid (@readT_some s p lo most)
  have NL := Lib.hid (numOf_le (L (restB s p lo)))
  have FIT : Hid (∀ k : Nat, okR s.size p lo = true → k ≤ (restB s p lo).size → lo = false ∧ ∃ i : Nat, p = i ∧ i + k ≤ s.size) := by
    intro k h hk
    obtain ⟨rfl, i, rfl, hi⟩ := okR_yes h
    rw [restB_yes hi, ByteArray.size_extract] at hk
    exact ⟨rfl, i, rfl, by omega⟩
  rw [L_len] at NL
  obtain ⟨b, hb⟩ : ∃ b, b = restB s p lo := ⟨_, rfl⟩
  obtain ⟨ok, hok⟩ : ∃ x, x = okR s.size p lo := ⟨_, rfl⟩
  have HBB := Lib.hid hb.symm
  have hb9 : b.size ≤ s.size := by rw [hb]; exact restB_size s p lo
  rw [← hb] at KR KN NO YES NL FIT
  rw [← hok] at KR NO YES FIT
  clear hb hok
  obtain ⟨nn, hn⟩ : ∃ n, n = (numOf (L b)).1 := ⟨_, rfl⟩
  obtain ⟨kk, hk⟩ : ∃ n, n = (numOf (L b)).2 := ⟨_, rfl⟩
  have hnk : numOf (L b) = (nn, kk) := by rw [hn, hk]
  rw [hnk] at KN NO YES NL
  have nl := NL.out
  obtain ⟨g, hg⟩ : ∃ g, w.heap.size = g := ⟨_, rfl⟩
  have M := Duo.new w #[.string s, .int .i64 p, .bool lo] #[.string ⟨#[]⟩, .int .i64 0, .bool false] 42 42
  rw [hg] at M
  clear hnk hn hk NL
  go_enter Try.func37, Try.ntmps37
  go_wp2_with fail
  clear hg
  generalize (w.alloc (.cells #[.string s, .int .i64 p, .bool lo] 42)).alloc (.cells #[.string ⟨#[]⟩, .int .i64 0, .bool false] 42) = W at *
  generalize g + 1 = r at *
  obtain ⟨c0, c1, c2⟩ := M.bg.three
  go_wp2_with fail
  clear c0 c1 c2
  refine (KR.out _).mono ?_
  rintro e W1 ⟨rfl, B1⟩
  replace M := M.next B1
  clear B1
  go_wp2_with fail
  refine (KN.out _).mono ?_
  rintro e W2 ⟨rfl, B2⟩
  replace M := M.next B2
  clear B2
  obtain ⟨c0, c1, c2⟩ := M.bg.three
  obtain ⟨k0, k1, k2⟩ := M.br.three
  have m0 := M.br.melt 0; have m1 := M.br.melt 1; have m2 := M.br.melt 2
  by_cases h : ok = true ∧ kk ≠ 0 ∧ 0 ≤ most ∧ (nn : Int) ≤ most ∧ nn + kk ≤ b.size
  · have R := Lib.hid (YES.out h)
    obtain ⟨rfl, h1, h2, h3, h4⟩ := h
    obtain ⟨rfl, i, rfl, hi⟩ := FIT.out (nn + kk) rfl h4
    have k9 : ((kk : Int) == 0) = false := by simpa using h1
    obtain ⟨m, rfl⟩ := Int.eq_ofNat_of_zero_le h2
    obtain ⟨d, hd⟩ : ∃ d, b.size = kk + d := ⟨b.size - kk, by omega⟩
    have n8 : ¬ (m : Int) < 0 := by omega
    have n9 : ¬ m < nn := by omega
    have n7 : ¬ d < nn := by omega
    have w1 : IntKind.u64.wrap (m : Int) = m := by rw [IntKind.wrap_u64]; omega
    have w2 : IntKind.i64.wrap ((b.size : Int) - kk) = d := by rw [IntKind.wrap_i64]; omega
    have w3 : IntKind.u64.wrap (d : Int) = d := by rw [IntKind.wrap_u64]; omega
    have w4 : IntKind.i64.wrap (nn : Int) = nn := by rw [IntKind.wrap_i64]; omega
    obtain ⟨e, he⟩ : ∃ e : Nat, e = kk + nn := ⟨_, rfl⟩
    have w5 : IntKind.i64.wrap ((kk : Int) + nn) = e := by rw [he, IntKind.wrap_i64]; omega
    have w6 : IntKind.i64.wrap ((i : Int) + kk) = (i : Int) + kk := by rw [IntKind.wrap_i64]; omega
    have s1 : (e : Int) ≤ b.size := by omega
    have s2 : (kk : Int) ≤ e := by omega
    have s3 : (0 : Int) ≤ kk := by omega
    have hsl : ∀ W : World, (Instr.slice 9 (.string b) (some (.int .i64 (kk : Int))) (some (.int .i64 (e : Int))) none).run Try.prog W = .ok (.string (b.extract kk e)) W := fun W => run_slice_string W 9 b .i64 .i64 (kk : Int) (e : Int) Try.underlying9 s3 s2 s1
    have HE := Lib.hid he
    obtain ⟨j, hj⟩ : ∃ j : Int, j = (i : Int) + kk + nn := ⟨_, rfl⟩
    have ew : IntKind.i64.wrap ((i : Int) + kk + nn) = j := by rw [hj, IntKind.wrap_i64]; omega
    have HJ := Lib.hid hj
    clear h1 h2 h3 h4 YES NO FIT hj hi he
    go_wp2_with fail
    go_region
    all_goals go_wp2_with fail
    clear c0 c1 c2 k0 k1 k2 m0 m1 m2
    replace M := (M.put3 (.string s) (.int .i64 j) (.bool false)).drew
    generalize (((W2.setCell ⟨r, 0, none⟩ (.string s)).setCell ⟨r, 1, none⟩ (.int .i64 j)).setCell ⟨r, 2, none⟩ (.bool false)).drew = W9 at *
    obtain ⟨z0, z1, z2⟩ := M.br.three
    exact bodyPost_ret (v := .tuple #[.string (b.extract kk e), rd s j false]) (by simp [results, Try.results37, go_sem, z0, z1, z2]) rfl ⟨by rw [R.out, HJ.out, HE.out, HBB.out, textB_some, Int.add_assoc, Int.add_comm (kk : Int)]; rfl, M.bl⟩
  · have R := Lib.hid (NO.out h)
    clear YES NO FIT
    have hc : ok = false ∨ (ok = true ∧ ((kk : Int) == 0) = true) ∨ (ok = true ∧ ((kk : Int) == 0) = false ∧ most < 0) ∨
        (ok = true ∧ ((kk : Int) == 0) = false ∧ ∃ m : Nat, most = m ∧ m < nn) ∨ (ok = true ∧ ((kk : Int) == 0) = false ∧ ∃ m d : Nat, most = m ∧ ¬ m < nn ∧ b.size = kk + d ∧ d < nn) := by
      cases ok
      · exact Or.inl rfl
      · refine Or.inr ?_
        by_cases k9 : kk = 0
        · exact Or.inl ⟨rfl, by simpa using k9⟩
        · refine Or.inr ?_
          by_cases k8 : most < 0
          · exact Or.inl ⟨rfl, by simpa using k9, k8⟩
          · refine Or.inr ?_
            obtain ⟨m, rfl⟩ := Int.eq_ofNat_of_zero_le (Int.not_lt.1 k8)
            by_cases k7 : m < nn
            · exact Or.inl ⟨rfl, by simpa using k9, m, rfl, k7⟩
            · exact Or.inr ⟨rfl, by simpa using k9, m, b.size - kk, rfl, k7, by omega, Nat.lt_of_not_le fun h9 => h ⟨rfl, k9, by omega, by omega, by omega⟩⟩
    clear h
    rcases hc with rfl | ⟨rfl, k9⟩ | ⟨rfl, k9, k8⟩ | ⟨rfl, k9, m, rfl, n9⟩ | ⟨rfl, k9, m, d, rfl, n9, hd, n7⟩
    all_goals
      try have n8 : ¬ (m : Int) < 0 := by omega
      try have w1 : IntKind.u64.wrap (m : Int) = m := by rw [IntKind.wrap_u64]; omega
      try have w2 : IntKind.i64.wrap ((b.size : Int) - kk) = d := by rw [IntKind.wrap_i64]; omega
      try have w3 : IntKind.u64.wrap (d : Int) = d := by rw [IntKind.wrap_u64]; omega
      go_wp2_with fail
      clear c0 c1 c2 k0 k1 k2 m0 m1 m2
      refine (KG.out _).mono ?_
      rintro e W3 ⟨rfl, B3⟩
      replace M := M.next B3
      clear B3
      obtain ⟨k0, k1, k2⟩ := M.br.three
      have m0 := M.br.melt 0; have m1 := M.br.melt 1; have m2 := M.br.melt 2
      go_wp2_with fail
      clear k0 k1 k2 m0 m1 m2
      replace M := (M.put3 (.string s) (.int .i64 p) (.bool true))
      generalize (((W3.setCell ⟨r, 0, none⟩ (.string s)).setCell ⟨r, 1, none⟩ (.int .i64 p)).setCell ⟨r, 2, none⟩ (.bool true)) = W9 at *
      obtain ⟨z0, z1, z2⟩ := M.br.three
      exact bodyPost_ret (v := .tuple #[.string ⟨#[]⟩, rd s p true]) (by simp [results, Try.results37, go_sem, z0, z1, z2]) rfl ⟨by rw [R.out, textB_none]; rfl, M.bl⟩
end Go.Proofs.Ytacobmnghdibaaa
namespace Go.Proofs.Ytacobmnghdibaaa
open Go.RowKit
/-- Blocks of the call's own, none twice; below them nothing has turned. -/
structure Own (w : World) (l : List (Nat × Array Value)) (W : World) : Prop where
  box : ∀ (k g : Nat) (cs : Array Value), l[k]? = some (g, cs) → w.heap.size ≤ g ∧ Box W g cs
  ne : ∀ (i j g g' : Nat) (cs cs' : Array Value), l[i]? = some (g, cs) → l[j]? = some (g', cs') → i ≠ j → g ≠ g'
  bl : Below w.heap.size w W
section
variable {w W W' : World} {l : List (Nat × Array Value)}
theorem Own.new (w : World) : Own w [] w := ⟨fun k g cs h => by simp at h, fun i j g g' cs cs' h => by simp at h, Below.refl _ _⟩
theorem Own.drew (h : Own w l W) : Own w l W.drew := ⟨fun k g cs hk => ⟨(h.box k g cs hk).1, (h.box k g cs hk).2.drew⟩, h.ne, h.bl.drew⟩
theorem Own.next (h : Own w l W) (hb : Below W.heap.size W W') : Own w l W' := ⟨fun k g cs hk => ⟨(h.box k g cs hk).1, (h.box k g cs hk).2.next hb⟩, h.ne, below_step h.bl hb⟩
theorem Own.set (h : Own w l W) (k : Nat) {g : Nat} {cs : Array Value} (hk : l[k]? = some (g, cs)) (i : Nat) (u : Value) : Own w (l.set k (g, cs.setIfInBounds i u)) (W.setCell ⟨g, i, none⟩ u) := by
  have lk : k < l.length := (List.getElem?_eq_some_iff.1 hk).1
  have back : ∀ (j g' : Nat) (ds : Array Value), (l.set k (g, cs.setIfInBounds i u))[j]? = some (g', ds) → (j = k ∧ g' = g ∧ ds = cs.setIfInBounds i u) ∨ (j ≠ k ∧ l[j]? = some (g', ds)) := by
    intro j g' ds hj
    rw [List.getElem?_set] at hj
    split at hj
    · rename_i e
      subst e
      first | (rw [if_pos lk] at hj) | skip
      injection hj with hj
      injection hj with e1 e2
      exact Or.inl ⟨rfl, e1.symm, e2.symm⟩
    · rename_i e
      exact Or.inr ⟨fun e' => e e'.symm, hj⟩
  refine ⟨fun j g' ds hj => ?_, fun i' j g1 g2 c1 c2 h1 h2 hne => ?_, below_set h.bl (h.box k g cs hk).1 u⟩
  · rcases back j g' ds hj with ⟨_, rfl, rfl⟩ | ⟨hj1, hj2⟩
    · exact ⟨(h.box k g' cs hk).1, (h.box k g' cs hk).2.set i u⟩
    · exact ⟨(h.box j g' ds hj2).1, (h.box j g' ds hj2).2.far (h.ne j k g' g ds cs hj2 hk hj1) u⟩
  · rcases back _ _ _ h1 with ⟨rfl, rfl, rfl⟩ | ⟨a1, a2⟩
    · rcases back _ _ _ h2 with ⟨rfl, rfl, rfl⟩ | ⟨b1, b2⟩
      · exact absurd rfl hne
      · exact h.ne _ _ _ _ _ _ hk b2 hne
    · rcases back _ _ _ h2 with ⟨rfl, rfl, rfl⟩ | ⟨b1, b2⟩
      · exact h.ne _ _ _ _ _ _ a2 hk hne
      · exact h.ne _ _ _ _ _ _ a2 b2 hne
theorem Own.alloc (h : Own w l W) {g : Nat} (hg : W.heap.size = g) (cs : Array Value) (t : TypeId) : Own w (l ++ [(g, cs)]) (W.alloc (.cells cs t)) := by
  subst hg
  have back : ∀ (j g' : Nat) (ds : Array Value), (l ++ [(W.heap.size, cs)])[j]? = some (g', ds) → (j = l.length ∧ g' = W.heap.size ∧ ds = cs) ∨ (j < l.length ∧ l[j]? = some (g', ds)) := by
    intro j g' ds hj
    by_cases e : j < l.length
    · rw [List.getElem?_append_left e] at hj; exact Or.inr ⟨e, hj⟩
    · rw [List.getElem?_append_right (by omega)] at hj
      by_cases e2 : j = l.length
      · subst e2
        rw [Nat.sub_self] at hj
        injection hj with hj
        injection hj with e1 e2
        exact Or.inl ⟨rfl, e1.symm, e2.symm⟩
      · rw [List.getElem?_eq_none (by simp; omega)] at hj; cases hj
  refine ⟨fun j g' ds hj => ?_, fun i j g1 g2 c1 c2 h1 h2 hne => ?_, below_al h.bl _⟩
  · rcases back j g' ds hj with ⟨_, rfl, rfl⟩ | ⟨_, hj2⟩
    · exact ⟨h.bl.size, Box.new W ds t⟩
    · exact ⟨(h.box j g' ds hj2).1, (h.box j g' ds hj2).2.alloc _⟩
  · rcases back _ _ _ h1 with ⟨rfl, rfl, rfl⟩ | ⟨a1, a2⟩
    · rcases back _ _ _ h2 with ⟨rfl, rfl, rfl⟩ | ⟨b1, b2⟩
      · exact absurd rfl hne
      · have := (h.box _ _ _ b2).2.lt; omega
    · rcases back _ _ _ h2 with ⟨rfl, rfl, rfl⟩ | ⟨b1, b2⟩
      · have := (h.box _ _ _ a2).2.lt; omega
      · exact h.ne _ _ _ _ _ _ a2 b2 hne
theorem Own.put3 (h : Own w l W) (k : Nat) {g : Nat} {z0 z1 z2 : Value} (hk : l[k]? = some (g, #[z0, z1, z2])) (a b c : Value) :
    Own w (l.set k (g, #[a, b, c])) (((W.setCell ⟨g, 0, none⟩ a).setCell ⟨g, 1, none⟩ b).setCell ⟨g, 2, none⟩ c) := by
  have lk : k < l.length := (List.getElem?_eq_some_iff.1 hk).1
  have h1 := h.set k hk 0 a
  have h2 := h1.set k (List.getElem?_set_self lk) 1 b
  rw [List.set_set] at h2
  have h3 := h2.set k (List.getElem?_set_self lk) 2 c
  rw [List.set_set] at h3
  exact h3
theorem Own.put2 (h : Own w l W) (k : Nat) {g : Nat} {z0 z1 : Value} (hk : l[k]? = some (g, #[z0, z1])) (a b : Value) :
    Own w (l.set k (g, #[a, b])) ((W.setCell ⟨g, 0, none⟩ a).setCell ⟨g, 1, none⟩ b) := by
  have lk : k < l.length := (List.getElem?_eq_some_iff.1 hk).1
  have h1 := h.set k hk 0 a
  have h2 := h1.set k (List.getElem?_set_self lk) 1 b
  rw [List.set_set] at h2
  exact h2
end
theorem keep_drew {w : World} {p : Addr} {v : Value} (h : w.cell? p = some v) : w.drew.cell? p = some v := h
theorem size_alloc (w : World) (o : Obj) : (w.alloc o).heap.size = w.heap.size + 1 := by simp
end Go.Proofs.Ytacobmnghdibaaa
namespace Go.Proofs.Ytacobmnghdibaaa
open Go.RowKit
set_option linter.unusedVariables false
set_option linter.unusedSimpArgs false
set_option maxHeartbeats 1000000
set_option maxRecDepth 100000
/-- Are there sixteen bytes? -/
@[irreducible] def readW (s : ByteArray) (p : Int) (lo : Bool) : Option Nat := if okR s.size p lo = true ∧ 16 ≤ (restB s p lo).size then some 16 else none
theorem readW_none {s : ByteArray} {p : Int} {lo : Bool} (h : ¬ (okR s.size p lo = true ∧ 16 ≤ (restB s p lo).size)) : readW s p lo = none := by unfold readW; rw [if_neg h]
theorem readW_some {s : ByteArray} {p : Int} {lo : Bool} (h : okR s.size p lo = true ∧ 16 ≤ (restB s p lo).size) : readW s p lo = some 16 := by unfold readW; rw [if_pos h]
/-- The number of an answer, its high half first. -/
@[irreducible] def wideB (b : ByteArray) : Option Nat → Nat × Nat
  | some _ => (vle (L (b.extract 8 16)), vle (L (b.extract 0 8)))
  | none => (0, 0)
theorem wideB_some (b : ByteArray) (k : Nat) : wideB b (some k) = (vle (L (b.extract 8 16)), vle (L (b.extract 0 8))) := by unfold wideB; rfl
theorem wideB_none (b : ByteArray) : wideB b none = (0, 0) := by unfold wideB; rfl
abbrev w128 (x : Nat × Nat) : Value := .agg #[.int .u64 (x.1 : Int), .int .u64 (x.2 : Int)]
theorem refReadWide_any (s : ByteArray) (p : Int) (lo : Bool) (hs : s.size ≤ 9223372036854775807) (w : World) : Calls Try.prog 40 #[rd s p lo] w fun e w' => e = .returned (.tuple #[w128 (wideB (restB s p lo) (readW s p lo)), rdo s p (readW s p lo)]) ∧ Below w.heap.size w w' := by
  have KR := Lib.hid (fun W => refRest_any s p lo hs W)
  have KG := Lib.hid (fun W => refGone_any s p lo W)
  have NO := Lib.hid (@readW_none s p lo)
  have YES := Lib.hid (@readW_some s p lo)
  have KV0 : Hid (16 ≤ (restB s p lo).size → ∀ W, _) := fun h W => refValue_any ((restB s p lo).extract 0 8) (by rw [ByteArray.size_extract]; omega) W
  have KV1 : Hid (16 ≤ (restB s p lo).size → ∀ W, _) := fun h W => refValue_any ((restB s p lo).extract 8 16) (by rw [ByteArray.size_extract]; omega) W
  have FIT : Hid (∀ k : Nat, okR s.size p lo = true → k ≤ (restB s p lo).size → lo = false ∧ ∃ i : Nat, p = i ∧ i + k ≤ s.size) := by
    intro k h hk
    obtain ⟨rfl, i, rfl, hi⟩ := okR_yes h
    rw [restB_yes hi, ByteArray.size_extract] at hk
    exact ⟨rfl, i, rfl, by omega⟩
  obtain ⟨b, hb⟩ : ∃ b, b = restB s p lo := ⟨_, rfl⟩
  obtain ⟨ok, hok⟩ : ∃ x, x = okR s.size p lo := ⟨_, rfl⟩
  have HBB := Lib.hid hb.symm
  have hb9 : b.size ≤ s.size := by rw [hb]; exact restB_size s p lo
  rw [← hb] at KR NO YES FIT KV0 KV1
  rw [← hok] at KR NO YES FIT
  clear hb hok
  obtain ⟨g, hg⟩ : ∃ g, w.heap.size = g := ⟨_, rfl⟩
  have M := (((Own.new w).alloc hg #[.string s, .int .i64 p, .bool lo] 42).alloc (g := g + 1) (by rw [size_alloc, hg]) #[.int .u64 0, .int .u64 0] 28).alloc (g := g + 1 + 1) (by rw [size_alloc, size_alloc, hg]) #[.string ⟨#[]⟩, .int .i64 0, .bool false] 42
  go_enter Try.func40, Try.ntmps40
  go_wp2_with fail
  clear hg
  generalize ((w.alloc (.cells #[.string s, .int .i64 p, .bool lo] 42)).alloc (.cells #[.int .u64 0, .int .u64 0] 28)).alloc (.cells #[.string ⟨#[]⟩, .int .i64 0, .bool false] 42) = W at *
  generalize g + 1 = q at *
  generalize q + 1 = r at *
  simp only [List.nil_append, List.cons_append] at M
  obtain ⟨c0, c1, c2⟩ := (M.box 0 g _ rfl).2.three
  have qr : q ≠ r := M.ne 1 2 q r _ _ rfl rfl (by decide)
  have rq : r ≠ q := Ne.symm qr
  have gq : g ≠ q := M.ne 0 1 g q _ _ rfl rfl (by decide)
  have gr : g ≠ r := M.ne 0 2 g r _ _ rfl rfl (by decide)
  go_wp2_with fail
  clear c0 c1 c2
  refine (KR.out _).mono ?_
  rintro e W1 ⟨rfl, B1⟩
  replace M := M.next B1
  clear B1
  obtain ⟨c0, c1, c2⟩ := (M.box 0 g _ rfl).2.three
  obtain ⟨j0, j1⟩ := (M.box 1 q _ rfl).2.two
  obtain ⟨k0, k1, k2⟩ := (M.box 2 r _ rfl).2.three
  have n0 := (M.box 1 q _ rfl).2.melt 0; have n1 := (M.box 1 q _ rfl).2.melt 1
  have m0 := (M.box 2 r _ rfl).2.melt 0; have m1 := (M.box 2 r _ rfl).2.melt 1; have m2 := (M.box 2 r _ rfl).2.melt 2
  by_cases h : ok = true ∧ 16 ≤ b.size
  · have R := Lib.hid (YES.out h)
    obtain ⟨rfl, h1⟩ := h
    obtain ⟨rfl, i, rfl, hi⟩ := FIT.out 16 rfl h1
    clear YES NO FIT
    have KV0 : Hid (∀ W : World, Calls Try.prog 67 #[.string (b.extract 0 8)] W fun e w' => e = .returned (.int .u64 (vle (L (b.extract 0 8)) : Int)) ∧ Below W.heap.size W w') := fun W => (KV0.out h1 W).mono (by rintro e z ⟨rfl, rfl⟩; exact ⟨rfl, Below.refl _ _⟩)
    have KV1 : Hid (∀ W : World, Calls Try.prog 67 #[.string (b.extract 8 16)] W fun e w' => e = .returned (.int .u64 (vle (L (b.extract 8 16)) : Int)) ∧ Below W.heap.size W w') := fun W => (KV1.out h1 W).mono (by rintro e z ⟨rfl, rfl⟩; exact ⟨rfl, Below.refl _ _⟩)
    have n9 : ¬ (b.size : Int) < 16 := by omega
    obtain ⟨j, hj⟩ : ∃ j : Int, j = (i : Int) + 16 := ⟨_, rfl⟩
    have ew : IntKind.i64.wrap ((i : Int) + 16) = j := by rw [hj, IntKind.wrap_i64]; omega
    have HJ := Lib.hid hj
    have hs0 : ∀ W : World, (Instr.slice 9 (.string b) none (some (.int .i64 8)) none).run Try.prog W = .ok (.string (b.extract 0 8)) W := fun W => run_slice_string_h W 9 b Try.underlying9 .i64 8 (by omega) (by omega)
    have hs1 : ∀ W : World, (Instr.slice 9 (.string b) (some (.int .i64 8)) (some (.int .i64 16)) none).run Try.prog W = .ok (.string (b.extract 8 16)) W := fun W => run_slice_string W 9 b .i64 .i64 8 16 Try.underlying9 (by omega) (by omega) (by omega)
    clear h1 hj hi
    obtain ⟨v0, hv0⟩ : ∃ v, vle (L (b.extract 0 8)) = v := ⟨_, rfl⟩
    obtain ⟨v1, hv1⟩ : ∃ v, vle (L (b.extract 8 16)) = v := ⟨_, rfl⟩
    have V0 := Lib.hid hv0
    have V1 := Lib.hid hv1
    rw [hv0] at KV0
    rw [hv1] at KV1
    clear hv0 hv1
    obtain ⟨b0, hb0⟩ : ∃ x, b.extract 0 8 = x := ⟨_, rfl⟩
    obtain ⟨b8, hb8⟩ : ∃ x, b.extract 8 16 = x := ⟨_, rfl⟩
    have HE0 := Lib.hid hb0
    have HE1 := Lib.hid hb8
    rw [hb0] at KV0 V0 hs0
    rw [hb8] at KV1 V1 hs1
    clear hb0 hb8
    go_wp2_with fail
    go_region_held3 (fun w' => w'.cell? ⟨g, 0, none⟩ = some (.string s) ∧ w'.cell? ⟨g, 1, none⟩ = some (.int .i64 (i : Int)))
      ((refine ⟨?_, ?_⟩ <;> (repeat (first | with_reducible exact c0 | with_reducible exact c1 | with_reducible refine keep_drew ?_ | with_reducible refine keep_set ?_ _ (by omega) | with_reducible refine keep_cell (by assumption) ?_))))
      (first
        | (go_at_call 67; (with_reducible refine (KV0.out _).mono ?_); rintro e z ⟨rfl, BZ⟩; have MZ := M.drew.next BZ)
        | (go_at_call 67; (with_reducible refine (KV1.out _).mono ?_); rintro e Z9 ⟨rfl, BZ1⟩; have MZ1 := MZ.next BZ1; obtain ⟨x0, x1⟩ := (MZ1.box 1 q _ rfl).2.two; obtain ⟨x2, x3, x4⟩ := (MZ1.box 2 r _ rfl).2.three; have a0 := (MZ1.box 1 q _ rfl).2.melt 0; have a1 := (MZ1.box 1 q _ rfl).2.melt 1; have a2 := (MZ1.box 2 r _ rfl).2.melt 0; have a3 := (MZ1.box 2 r _ rfl).2.melt 1; have a4 := (MZ1.box 2 r _ rfl).2.melt 2))
    all_goals go_wp2_with fail
    replace M := (MZ1.put2 1 rfl (.int .u64 (v1 : Int)) (.int .u64 (v0 : Int))).put3 2 rfl (.string s) (.int .i64 j) (.bool false)
    generalize ((((Z9.setCell ⟨q, 0, none⟩ (.int .u64 (v1 : Int))).setCell ⟨q, 1, none⟩ (.int .u64 (v0 : Int))).setCell ⟨r, 0, none⟩ (.string s)).setCell ⟨r, 1, none⟩ (.int .i64 j)).setCell ⟨r, 2, none⟩ (.bool false) = W9 at *
    obtain ⟨y0, y1⟩ := (M.box 1 q _ rfl).2.two
    obtain ⟨z0, z1, z2⟩ := (M.box 2 r _ rfl).2.three
    exact bodyPost_ret (v := .tuple #[.agg #[.int .u64 (v1 : Int), .int .u64 (v0 : Int)], rd s j false]) (by simp [results, Try.results40, go_sem, y0, y1, z0, z1, z2]) rfl ⟨by rw [R.out, HBB.out, wideB_some, HE0.out, HE1.out, V0.out, V1.out, HJ.out]; rfl, M.bl⟩
  · have R := Lib.hid (NO.out h)
    clear YES NO FIT KV0 KV1
    have hc : ok = false ∨ (ok = true ∧ (b.size : Int) < 16) := by
      cases ok
      · exact Or.inl rfl
      · exact Or.inr ⟨rfl, by have : ¬ 16 ≤ b.size := fun h9 => h ⟨rfl, h9⟩; omega⟩
    clear h
    rcases hc with rfl | ⟨rfl, k9⟩
    all_goals
      go_wp2_with fail
      clear c0 c1 c2 j0 j1 k0 k1 k2 n0 n1 m0 m1 m2
      refine (KG.out _).mono ?_
      rintro e W3 ⟨rfl, B3⟩
      replace M := M.next B3
      clear B3
      obtain ⟨j0, j1⟩ := (M.box 1 q _ rfl).2.two
      obtain ⟨k0, k1, k2⟩ := (M.box 2 r _ rfl).2.three
      have n0 := (M.box 1 q _ rfl).2.melt 0; have n1 := (M.box 1 q _ rfl).2.melt 1
      have m0 := (M.box 2 r _ rfl).2.melt 0; have m1 := (M.box 2 r _ rfl).2.melt 1; have m2 := (M.box 2 r _ rfl).2.melt 2
      go_wp2_with fail
      clear j0 j1 k0 k1 k2 n0 n1 m0 m1 m2
      replace M := (M.put2 1 rfl (.int .u64 0) (.int .u64 0)).put3 2 rfl (.string s) (.int .i64 p) (.bool true)
      generalize ((((W3.setCell ⟨q, 0, none⟩ (.int .u64 0)).setCell ⟨q, 1, none⟩ (.int .u64 0)).setCell ⟨r, 0, none⟩ (.string s)).setCell ⟨r, 1, none⟩ (.int .i64 p)).setCell ⟨r, 2, none⟩ (.bool true) = W9 at *
      obtain ⟨y0, y1⟩ := (M.box 1 q _ rfl).2.two
      obtain ⟨z0, z1, z2⟩ := (M.box 2 r _ rfl).2.three
      exact bodyPost_ret (v := .tuple #[.agg #[.int .u64 0, .int .u64 0], rd s p true]) (by simp [results, Try.results40, go_sem, y0, y1, z0, z1, z2]) rfl ⟨by rw [R.out, wideB_none]; rfl, M.bl⟩
end Go.Proofs.Ytacobmnghdibaaa
namespace Go.Proofs.Ytacobmnghdibaaa
open Go.RowKit
set_option linter.unusedVariables false
set_option linter.unusedSimpArgs false
set_option maxHeartbeats 1000000
set_option maxRecDepth 100000
theorem bs_app (a b : List UInt8) : bs a ++ bs b = bs (a ++ b) := L_inj (by rw [L_app])
theorem refWide_any (h l : Nat) (hh : h < 18446744073709551616) (hl : l < 18446744073709551616) (w : World) : Calls Try.prog 20 #[w128 (h, l)] w fun e w' => e = .returned (.string (bs (leb l 8 ++ leb h 8))) ∧ Below w.heap.size w w' := by
  have KL : Hid (∀ W : World, Calls Try.prog 31 #[.int .u64 (l : Int), .int .i64 8] W fun e w' => e = .returned (.string (bs (leb l 8))) ∧ Below W.heap.size W w') := fun W => refBytes_any l 8 hl (by decide) W
  have KH : Hid (∀ W : World, Calls Try.prog 31 #[.int .u64 (h : Int), .int .i64 8] W fun e w' => e = .returned (.string (bs (leb h 8))) ∧ Below W.heap.size W w') := fun W => refBytes_any h 8 hh (by decide) W
  have A : Hid (bs (leb l 8) ++ bs (leb h 8) = bs (leb l 8 ++ leb h 8)) := bs_app _ _
  have z0 : (bs (leb l 8)).size = 8 := by rw [bs_size, leb_len]
  have z1 : (bs (leb h 8)).size = 8 := by rw [bs_size, leb_len]
  generalize bs (leb l 8) = x0 at *
  generalize bs (leb h 8) = x1 at *
  have hadd : ∀ W : World, (Op.stringOp .add x0 x1).run Try.prog W = .ok (.string (x0 ++ x1)) W := fun W => run_string_add_sum W x0 x1 (by omega)
  obtain ⟨g, hg⟩ : ∃ g, w.heap.size = g := ⟨_, rfl⟩
  have M := (Own.new w).alloc hg #[.int .u64 (h : Int), .int .u64 (l : Int)] 28
  go_enter Try.func20, Try.ntmps20
  go_wp2_with fail
  clear hg
  generalize w.alloc (.cells #[.int .u64 (h : Int), .int .u64 (l : Int)] 28) = W at *
  simp only [List.nil_append] at M
  obtain ⟨c0, c1⟩ := (M.box 0 g _ rfl).2.two
  go_wp2_with fail
  go_region_held3 (fun w' => w'.cell? ⟨g, 0, none⟩ = some (.int .u64 (h : Int)) ∧ w'.cell? ⟨g, 1, none⟩ = some (.int .u64 (l : Int)))
    ((refine ⟨?_, ?_⟩ <;> (repeat (first | with_reducible exact c0 | with_reducible exact c1 | with_reducible refine keep_drew ?_ | with_reducible refine keep_cell (by assumption) ?_))))
    (first
      | (go_at_call 31; (with_reducible refine (KL.out _).mono ?_); rintro e Z ⟨rfl, BZ⟩; have MZ := M.drew.next BZ)
      | (go_at_call 31; (with_reducible refine (KH.out _).mono ?_); rintro e Z9 ⟨rfl, BZ1⟩; have MZ1 := MZ.next BZ1))
  all_goals go_wp2_with fail
  go_ret
  exact ⟨by rw [← A.out]; rfl, MZ1.bl⟩
end Go.Proofs.Ytacobmnghdibaaa
