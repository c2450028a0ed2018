/- The walk of wide.withDigit. -/
import Derived.Test.YtgafejolijjiiaaWalkF
namespace Go.Proofs.Ytgafejolijjiiaa
open Go.RowKit
set_option linter.unusedSimpArgs false
set_option linter.unusedVariables false

/-- Whether a byte is a digit that can be put behind a number. -/
@[irreducible] def digB (n : Nat) (c : Int) : Bool := decide (48 ≤ c ∧ c ≤ 57 ∧ n * 10 + (c - 48).toNat < 340282366920938463463374607431768211456)
/-- The number with that digit behind; else 0. -/
@[irreducible] def digN (n : Nat) (c : Int) : Nat := if digB n c then n * 10 + (c - 48).toNat else 0
theorem digB_no {n : Nat} {c : Int} (h : c < 48 ∨ 57 < c) : digB n c = false := by unfold digB; simp; omega
theorem digN_no {n : Nat} {c : Int} (h : c < 48 ∨ 57 < c) : digN n c = 0 := by unfold digN; rw [digB_no h]; rfl
theorem digB_eq {n : Nat} {c : Int} (h : 48 ≤ c) (k : c ≤ 57) : digB n c = fitsB (n * 10 + (c - 48).toNat) := by unfold digB fitsB; simp [h, k]
theorem digN_eq {n : Nat} {c : Int} (h : 48 ≤ c) (k : c ≤ 57) : digN n c = cut (n * 10 + (c - 48).toNat) := by
  unfold digN; rw [digB_eq h k]
  by_cases f : Fits (n * 10 + (c - 48).toNat)
  · rw [fitsB_yes f, cut_yes f]; rfl
  · rw [fitsB_no f, cut_no f]; rfl
theorem fits_digN (n : Nat) (c : Int) : Fits (digN n c) := by
  by_cases h : 48 ≤ c
  · by_cases k : c ≤ 57
    · rw [digN_eq h k]; exact fits_cut _
    · rw [digN_no (by omega)]; unfold Fits; omega
  · rw [digN_no (by omega)]; unfold Fits; omega

/-- Two blocks of the call's own: a number, and one that may be written. -/
structure Two (w : World) (a : Nat) (x y : Value) (wx : World) : Prop where
  a0 : wx.cell? ⟨w.heap.size, 0, none⟩ = some (.int .u64 (hi a))
  a1 : wx.cell? ⟨w.heap.size, 1, none⟩ = some (.int .u64 (lo a))
  r0 : wx.cell? ⟨w.heap.size + 1, 0, none⟩ = some x
  r1 : wx.cell? ⟨w.heap.size + 1, 1, none⟩ = some y
  m0 : wx.frozen? ⟨w.heap.size + 1, 0, none⟩ = false
  m1 : wx.frozen? ⟨w.heap.size + 1, 1, none⟩ = false
  sz : w.heap.size + 1 < wx.heap.size
  bl : Below w.heap.size w wx
theorem Two.next {w : World} {a : Nat} {x y : Value} {W w1 : World} (t : Two w a x y W) (hb : Below W.heap.size W w1) : Two w a x y w1 :=
  ⟨keep_cell hb t.a0, keep_cell hb t.a1, keep_cell hb t.r0, keep_cell hb t.r1, keep_melt hb t.r0 t.m0, keep_melt hb t.r1 t.m1, Nat.lt_of_lt_of_le t.sz hb.size, t.bl.trans (hb.mono (by have := t.sz; omega))⟩
theorem Two.start (w : World) (a : Nat) (x y : Value) : Two w a x y ((w.alloc (.cells #[.int .u64 (hi a), .int .u64 (lo a)] 24)).alloc (.cells #[x, y] 24)) := by
  refine ⟨?_, ?_, ?_, ?_, ?_, ?_, ?_, two_bel _ _ _⟩ <;> simp [go_sem, World.cell?_alloc_past]
theorem Two.drew {w : World} {a : Nat} {x y : Value} {W : World} (t : Two w a x y W) : Two w a x y W.drew := ⟨t.a0, t.a1, t.r0, t.r1, t.m0, t.m1, t.sz, t.bl.drew⟩
theorem Two.set {w : World} {a : Nat} {x y : Value} {W : World} (t : Two w a x y W) {p : Addr} (v : Value) (hp : w.heap.size + 1 < p.block) : Two w a x y (W.setCell p v) :=
  ⟨keep_set t.a0 _ (by simp <;> omega), keep_set t.a1 _ (by simp <;> omega), keep_set t.r0 _ (by simp <;> omega), keep_set t.r1 _ (by simp <;> omega),
    (World.frozen?_setCell _ _ _ _).trans t.m0, (World.frozen?_setCell _ _ _ _).trans t.m1, by rw [World.size_setCell]; exact t.sz, t.bl.setCell (by omega) _⟩
theorem Two.alloc {w : World} {a : Nat} {x y : Value} {W : World} (t : Two w a x y W) (o : Obj) : Two w a x y (W.alloc o) := t.next ((Below.refl _ _).alloc (Nat.le_refl _) o)

set_option maxHeartbeats 1000000 in
theorem digit_low (n : Nat) (c : Int) (h : c < 48) (w : World) : Calls Try.prog 38 #[U n, .int .u8 c] w fun e w' => e = .returned (.tuple #[U (digN n c), .bool (digB n c)]) ∧ Below w.heap.size w w' := by
  have E1 := Lib.hid (digN_no (n := n) (Or.inl h)); have E2 := Lib.hid (digB_no (n := n) (Or.inl h))
  go_enter Try.func38, Try.ntmps38
  go_wp2_with fail
  exact bodyPost_ret (v := .tuple #[U 0, .bool false]) (by simp [results, Try.results38, go_sem, hi_zero, lo_zero]) rfl ⟨by rw [E1.out, E2.out], two_bel _ _ _⟩
set_option maxHeartbeats 1000000 in
theorem digit_high (n : Nat) (c : Int) (h : 57 < c) (w : World) : Calls Try.prog 38 #[U n, .int .u8 c] w fun e w' => e = .returned (.tuple #[U (digN n c), .bool (digB n c)]) ∧ Below w.heap.size w w' := by
  have E1 := Lib.hid (digN_no (n := n) (Or.inr h)); have E2 := Lib.hid (digB_no (n := n) (Or.inr h))
  have h2 : ¬ c < 48 := by omega
  go_enter Try.func38, Try.ntmps38
  go_wp2_with fail
  exact bodyPost_ret (v := .tuple #[U 0, .bool false]) (by simp [results, Try.results38, go_sem, hi_zero, lo_zero]) rfl ⟨by rw [E1.out, E2.out], two_bel _ _ _⟩

set_option maxHeartbeats 1000000 in
set_option maxRecDepth 100000 in
theorem digit_in (n : Nat) (hn : Fits n) (c : Int) (h1 : ¬ c < 48) (h2 : ¬ 57 < c) (w : World) : Calls Try.prog 38 #[U n, .int .u8 c] w fun e w' => e = .returned (.tuple #[U (digN n c), .bool (digB n c)]) ∧ Below w.heap.size w w' := by
  have HN := Lib.hid hn
  clear hn
  go_enter Try.func38, Try.ntmps38
  go_upto_region 3 with fail
  go_cut [6, 7] (fun s6 s7 wx => ∃ o, s6 = .pointer (some ⟨o, 0, none⟩) ∧ s7 = .bool (fitsB (n * 10)) ∧ wx.cell? ⟨o, 0, none⟩ = some (.int .u64 (hi (cut (n * 10)))) ∧ wx.cell? ⟨o, 1, none⟩ = some (.int .u64 (lo (cut (n * 10)))) ∧ w.heap.size + 1 < o ∧ Two w n (.int .u64 0) (.int .u64 0) wx)
  case first =>
    have T := Two.start w n (.int .u64 0) (.int .u64 0)
    have z : w.heap.size + 1 < ((w.alloc (.cells #[.int .u64 (hi n), .int .u64 (lo n)] 24)).alloc (.cells #[.int .u64 0, .int .u64 0] 24)).heap.size := T.sz
    generalize (w.alloc (.cells #[.int .u64 (hi n), .int .u64 (lo n)] 24)).alloc (.cells #[.int .u64 0, .int .u64 0] 24) = W at *
    have t1 := T.a0; have t2 := T.a1
    have ten : Word 10 := .mk (by decide) (by decide)
    have F10 : Hid (Fits (10 : Int).toNat) := by unfold Hid Fits; decide
    go_region_held3 (fun w' => w'.cell? ⟨w.heap.size, 0, none⟩ = some (.int .u64 (hi n)) ∧ w'.cell? ⟨w.heap.size, 1, none⟩ = some (.int .u64 (lo n)))
      ((refine ⟨?_, ?_⟩ <;> (repeat (first | with_reducible exact t1 | with_reducible exact t2 | with_reducible refine keep_alloc ?_ _ | with_reducible refine keep_drew ?_ | with_reducible refine keep_set ?_ _ (by simp <;> omega) | with_reducible refine keep_cell (by assumption) ?_))))
      (first
        | (go_at_call 22; refine (of_bel _ ten _).mono ?_; rintro e w1 ⟨rfl, hb1⟩; obtain ⟨hc1, hf1⟩ := bcell hb1; have z1 := hb1.size; (try simp only [World.size_alloc, World.size_drew, Nat.add_one_le_iff] at z1))
        | (go_at_call 17; refine (mul_any n 10 HN.out F10.out _).mono ?_; rintro e w2 ⟨rfl, hb2⟩; obtain ⟨hc2, hf2⟩ := bcell hb2; have z2 := hb2.size; (try simp only [World.size_alloc, World.size_drew, Nat.add_one_le_iff] at z2)))
    all_goals go_wp2_with fail
    all_goals go_meet
    all_goals go_light
    all_goals refine ⟨_, rfl, rfl, ?_, ?_, ?_, ?_⟩
    all_goals first
      | (simp [go_sem]; done)
      | (simp [go_sem, hc2, hc1, z1, z2]; done)
      | omega
      | (repeat (first | with_reducible exact T | with_reducible refine Two.alloc ?_ _ | with_reducible refine Two.set ?_ _ (by simp only []; omega) | with_reducible refine Two.drew ?_ | with_reducible refine Two.next ?_ (by assumption)))
  case rest =>
    obtain ⟨o, rfl, rfl, o0, o1, oz, T⟩ := hcut
    have t5 := T.r0; have t6 := T.r1; have t7 := T.m0; have t8 := T.m1; have tz := T.sz
    by_cases f : Fits (n * 10)
    · rw [cut_yes f] at o0 o1
      have fb := fitsB_yes f
      have E1 := Lib.hid (digN_eq (n := n) (show 48 ≤ c by omega) (show c ≤ 57 by omega)); have E2 := Lib.hid (digB_eq (n := n) (show 48 ≤ c by omega) (show c ≤ 57 by omega))
      have F := Lib.hid f
      clear f
      have X1 : Hid (IntKind.u8.wrap (c - 48) = c - 48) := by unfold Hid; simp [IntKind.wrap, IntKind.bits, IntKind.signed]; omega
      have X2 : Hid (IntKind.u64.wrap (c - 48) = c - 48) := by unfold Hid; rw [IntKind.wrap_u64]; omega
      have WD : Word (c - 48) := .mk (by omega) (by omega)
      have FD := Lib.hid (fits_word _ WD)
      go_wp2_with fail
      go_region_held3 (fun w' => w'.cell? ⟨o, 0, none⟩ = some (.int .u64 (hi (n * 10))) ∧ w'.cell? ⟨o, 1, none⟩ = some (.int .u64 (lo (n * 10))))
        ((refine ⟨?_, ?_⟩ <;> (repeat (first | with_reducible exact o0 | with_reducible exact o1 | with_reducible refine keep_alloc ?_ _ | with_reducible refine keep_drew ?_ | with_reducible refine keep_set ?_ _ (by simp <;> omega) | with_reducible refine keep_cell (by assumption) ?_))))
        (first
          | (go_at_call 22; (try rw [X1.out]); (try rw [X2.out]); refine (of_bel (c - 48) WD _).mono ?_; rintro e w1 ⟨rfl, hb1⟩)
          | (go_at_call 11; refine (add_bel (n * 10) (c - 48).toNat F.out FD.out _).mono ?_; rw [← E1.out, ← E2.out]; rintro e w2 ⟨rfl, hb2⟩; have T2 := (T.drew.next hb1).next hb2; have r1 := T2.r0; have r2 := T2.r1; have r3 := T2.m0; have r4 := T2.m1))
      go_wp2_with fail
      go_light
      exact bodyPost_ret (v := .tuple #[U (digN n c), .bool (digB n c)]) (by simp [results, Try.results38, go_sem, r1, r2]) rfl ⟨rfl, (T2.bl.setCell (by simp only []; omega) _).setCell (by simp only []; omega) _⟩
    · have fb := fitsB_no f
      have E1 : Hid (digN n c = 0) := by unfold Hid; rw [digN_eq (by omega) (by omega), cut_no (by unfold Fits at *; omega)]
      have E2 : Hid (digB n c = false) := by unfold Hid; rw [digB_eq (by omega) (by omega), fitsB_no (by unfold Fits at *; omega)]
      clear f
      go_wp2_with fail
      go_light
      exact bodyPost_ret (v := .tuple #[U 0, .bool false]) (by simp [results, Try.results38, go_sem, hi_zero, lo_zero, t5, t6]) rfl ⟨by rw [E1.out, E2.out], (T.bl.setCell (by simp only []; omega) _).setCell (by simp only []; omega) _⟩

/-- wide.withDigit. -/
theorem digit_any (n : Nat) (hn : Fits n) (c : Int) (w : World) : Calls Try.prog 38 #[U n, .int .u8 c] w fun e w' => e = .returned (.tuple #[U (digN n c), .bool (digB n c)]) ∧ Below w.heap.size w w' := by
  by_cases h1 : c < 48
  · exact digit_low n c h1 w
  · by_cases h2 : 57 < c
    · exact digit_high n c h2 w
    · exact digit_in n hn c h1 h2 w
end Go.Proofs.Ytgafejolijjiiaa
