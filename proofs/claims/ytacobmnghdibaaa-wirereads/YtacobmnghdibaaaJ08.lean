/- The program's walks of wide and ahead. The program's walk of ahead, where nothing may be asked. The program's walk of nat. Fractions in memory; the walks of rat: Right, reduced. The walk of the document's Same, of fractions. -/
import Derived.Test.YtacobmnghdibaaaJ07
import Derived.Test.YtacobmnghdibaaaJ05
namespace Go.Proofs.Ytacobmnghdibaaa
open Go.RowKit
set_option linter.unusedVariables false
set_option linter.unusedSimpArgs false
set_option maxHeartbeats 1000000
set_option maxRecDepth 100000
theorem Tk.far {w W : World} {g r : Nat} {cs : Array Value} (h : Tk g cs w W) (hr : w.heap.size ≤ r) (ne : g ≠ r) (i : Nat) (u : Value) : Tk g cs w (W.setCell ⟨r, i, none⟩ u) :=
  ⟨h.box.far ne u, h.os, h.tape, h.output, by rw [show (W.setCell ⟨r, i, none⟩ u).heap.size = W.heap.size by simp [World.setCell]]; exact h.size, fun k hk hn => (Below.heap_setCell W ⟨r, i, none⟩ u k (by show k ≠ r; omega)).trans (h.block k hk hn)⟩
/-- Are sixteen bytes there? -/
@[irreducible] def wideM (n : Nat) : Option Nat := if 16 ≤ n then some 16 else none
theorem wideM_yes {n : Nat} (h : 16 ≤ n) : wideM n = some 16 := by unfold wideM; rw [if_pos h]
theorem wideM_no {n : Nat} (h : ¬ 16 ≤ n) : wideM n = none := by unfold wideM; rw [if_neg h]
theorem readW_wideM (s : ByteArray) (p : Int) (lo : Bool) : readW s p lo = if okR s.size p lo = true then wideM (restB s p lo).size else none := by
  by_cases h : okR s.size p lo = true
  · rw [if_pos h]
    by_cases c : 16 ≤ (restB s p lo).size
    · rw [wideM_yes c, readW_some ⟨h, c⟩]
    · rw [wideM_no c, readW_none fun x => c x.2]
  · rw [if_neg h, readW_none fun x => h x.1]
theorem wide_any {b : ByteArray} {g : Nat} {w : World} (h : Box w g #[.string b]) (hs : b.size ≤ 281474976710656) : Calls Try.prog 55 #[.pointer (some ⟨g, 0, none⟩)] w fun e w' =>
    RetP ((wideM b.size).map fun k => (w128 (wideB b (some k)), b.extract k b.size)) g w e w' := by
  have hlt := h.lt
  have T : Tk g #[.string b] w (w.alloc (.cells #[.int .u64 0, .int .u64 0] 28)) := (Tk.refl h).alloc _
  have R := Box.new w #[.int .u64 0, .int .u64 0] 28
  obtain ⟨r, hr⟩ : ∃ r, w.heap.size = r := ⟨_, rfl⟩
  rw [hr] at R
  have hne : Hid (g ≠ r) := by unfold Hid; omega
  have hrw : Hid (w.heap.size ≤ r) := by unfold Hid; omega
  clear hlt h
  by_cases c8 : 8 ≤ b.size
  · obtain ⟨b1, hb1⟩ : ∃ x, x = b.extract 8 b.size := ⟨_, rfl⟩
    obtain ⟨t1, ht1⟩ : ∃ x, x = b.extract 0 8 := ⟨_, rfl⟩
    have b1s : b1.size = b.size - 8 := by rw [hb1, ByteArray.size_extract]; omega
    have KA : Hid (∀ W, Box W g #[.string b] → Calls Try.prog 70 #[.pointer (some ⟨g, 0, none⟩), .int .i64 8] W _) := fun W hW => take_yes (w := W) (n := 8) hW c8 hs
    rw [← hb1, ← ht1] at KA
    have KF : Hid (∀ W, _) := fun W => fromLowest_any t1 (by rw [ht1, ByteArray.size_extract]; omega) W
    by_cases c16 : 16 ≤ b.size
    · have EN := Lib.hid (wideM_yes c16)
      obtain ⟨b2, hb2⟩ : ∃ x, x = b1.extract 8 b1.size := ⟨_, rfl⟩
      obtain ⟨t2, ht2⟩ : ∃ x, x = b1.extract 0 8 := ⟨_, rfl⟩
      have KB : Hid (∀ W, Box W g #[.string b1] → Calls Try.prog 70 #[.pointer (some ⟨g, 0, none⟩), .int .i64 8] W _) := fun W hW => take_yes (w := W) (n := 8) hW (by omega) (by omega)
      rw [← hb2, ← ht2] at KB
      have KG : Hid (∀ W, _) := fun W => fromLowest_any t2 (by rw [ht2, ByteArray.size_extract]; omega) W
      have E1 : t2 = b.extract 8 16 := by rw [ht2, hb1]; exact L_inj (by rw [L_take, L_drop, L_ext])
      have E2 : b2 = b.extract 16 b.size := by rw [hb2, hb1]; exact L_inj (by rw [L_drop, L_drop, L_drop, List.drop_drop])
      have V : Hid (w128 (wideB b (some 16)) = .agg #[.int .u64 (vle (L t2) : Int), .int .u64 (vle (L t1) : Int)]) := by
        unfold Hid; rw [wideB_some, ← E1, ← ht1]
      have HE2 := Lib.hid E2
      generalize vle (L t1) = v1 at *
      generalize vle (L t2) = v2 at *
      clear hb1 ht1 b1s ht2 hb2 E1 E2 hs c8 c16
      go_enter Try.func55, Try.ntmps55
      go_wp2_with fail
      clear hr
      generalize w.alloc (.cells #[.int .u64 0, .int .u64 0] 28) = W at *
      refine (KA.out _ T.box).mono ?_
      rintro e z ⟨rfl, T1⟩
      replace R := R.tk T1 hne.out.symm
      replace T := T.trans T1
      clear T1 KA
      go_wp2_with fail
      refine (KF.out _).mono ?_
      rintro e z ⟨rfl, rfl⟩
      go_wp2_with fail
      refine (KB.out _ T.box).mono ?_
      rintro e z ⟨rfl, T1⟩
      replace R := R.tk T1 hne.out.symm
      replace T := T.trans T1
      clear T1 KB
      go_wp2_with fail
      refine (KG.out _).mono ?_
      rintro e z ⟨rfl, rfl⟩
      obtain ⟨c0, c1⟩ := R.two
      have m0 := R.melt 0; have m1 := R.melt 1
      go_wp2_with fail
      clear c0 c1 m0 m1
      replace R : Box _ r #[.int .u64 (v2 : Int), .int .u64 (v1 : Int)] := (R.set 0 (.int .u64 (v2 : Int))).set 1 (.int .u64 (v1 : Int))
      replace T := (T.far hrw.out hne.out 0 (.int .u64 (v2 : Int))).far hrw.out hne.out 1 (.int .u64 (v1 : Int))
      generalize (World.setCell (World.setCell _ ⟨r, 0, none⟩ (.int .u64 (v2 : Int))) ⟨r, 1, none⟩ (.int .u64 (v1 : Int))) = W9 at *
      obtain ⟨c0, c1⟩ := R.two
      refine bodyPost_ret (v := .agg #[.int .u64 (v2 : Int), .int .u64 (v1 : Int)]) (by simp [results, Try.results55, go_sem, c0, c1]) rfl ?_
      rw [EN.out, Option.map_some, V.out, ← HE2.out]
      exact ⟨rfl, T⟩
    · have EN := Lib.hid (wideM_no c16)
      have KB : Hid (∀ W, Box W g #[.string b1] → Calls Try.prog 70 #[.pointer (some ⟨g, 0, none⟩), .int .i64 8] W _) := fun W hW => take_no (w := W) (n := 8) hW (by omega)
      generalize vle (L t1) = v1 at *
      clear hb1 ht1 b1s hs c8 c16
      go_enter Try.func55, Try.ntmps55
      go_wp2_with fail
      clear hr
      generalize w.alloc (.cells #[.int .u64 0, .int .u64 0] 28) = W at *
      refine (KA.out _ T.box).mono ?_
      rintro e z ⟨rfl, T1⟩
      replace T := T.trans T1
      clear T1 KA R
      go_wp2_with fail
      refine (KF.out _).mono ?_
      rintro e z ⟨rfl, rfl⟩
      go_wp2_with fail
      refine (KB.out _ T.box).mono ?_
      rintro e z ⟨rfl, rfl⟩
      go_wp2_with fail
      exact ⟨rfl, RetP.none_ (by rw [EN.out]; rfl) T⟩
  · have EN := Lib.hid (wideM_no (n := b.size) (by omega))
    have KA : Hid (∀ W, Box W g #[.string b] → Calls Try.prog 70 #[.pointer (some ⟨g, 0, none⟩), .int .i64 8] W _) := fun W hW => take_no (w := W) (n := 8) hW c8
    clear hs c8
    go_enter Try.func55, Try.ntmps55
    go_wp2_with fail
    clear hr
    generalize w.alloc (.cells #[.int .u64 0, .int .u64 0] 28) = W at *
    refine (KA.out _ T.box).mono ?_
    rintro e z ⟨rfl, rfl⟩
    go_wp2_with fail
    exact ⟨rfl, RetP.none_ (by rw [EN.out]; rfl) T⟩
/-- What is ahead, in a block of its own. -/
theorem ahead_yes {s : ByteArray} {i g : Nat} {w : World} (h : Box w g #[.string s, .int .i64 (i : Int), .bool false]) (hi : i ≤ s.size) (hs : s.size ≤ 281474976710656) : Calls Try.prog 69 #[.pointer (some ⟨g, 0, none⟩)] w fun e w' =>
    ∃ r, e = .returned (.pointer (some ⟨r, 0, none⟩)) ∧ w.heap.size ≤ r ∧ Box w' r #[.string (s.extract i s.size)] ∧ Below w.heap.size w w' := by
  obtain ⟨c0, c1, c2⟩ := h.three
  have KY := Lib.hid need_yes
  have h1 : (i : Int) ≤ s.size := by omega
  have h2 : (0 : Int) ≤ i := by omega
  have h3 : ¬ (s.size : Int) < i := by omega
  have hsl : ∀ W : World, (Instr.slice 9 (.string s) (some (.int .i64 (i : Int))) none none).run Try.prog W = .ok (.string (s.extract i s.size)) W := by
    intro W
    simp [go_sem, h1, h2, h3, Try.underlying9]
  go_enter Try.func69, Try.ntmps69
  go_wp2_with fail
  go_region_held3 (fun w' => w'.cell? ⟨g, 0, none⟩ = some (.string s) ∧ w'.cell? ⟨g, 1, none⟩ = some (.int .i64 (i : Int)) ∧ w'.cell? ⟨g, 2, none⟩ = some (.bool false))
    ((refine ⟨?_, ?_, ?_⟩ <;> (repeat (first | with_reducible exact c0 | with_reducible exact c1 | with_reducible exact c2 | with_reducible refine keep_drew ?_))))
    (first | (go_at_call 71; (with_reducible refine (KY.out _).mono ?_); rintro e z ⟨rfl, rfl⟩))
  all_goals go_wp2_with fail
  have d0 : w.drew.cell? ⟨g, 0, none⟩ = some (.string s) := c0
  have d1 : w.drew.cell? ⟨g, 1, none⟩ = some (.int .i64 (i : Int)) := c1
  have BX := Box.new w.drew.drew #[.string (s.extract i s.size)] 102
  have BL : Hid (Below w.heap.size w (w.drew.drew.alloc (.cells #[.string (s.extract i s.size)] 102))) := below_al (Below.refl _ _).drew.drew _
  have BH := Lib.hid BX
  clear BX c0 c1 c2
  go_region
  all_goals go_wp2_with fail
  go_ret
  exact ⟨w.heap.size, rfl, Nat.le_refl _, BH.out, BL.out⟩
end Go.Proofs.Ytacobmnghdibaaa
namespace Go.Proofs.Ytacobmnghdibaaa
open Go.RowKit
set_option linter.unusedVariables false
set_option linter.unusedSimpArgs false
set_option maxHeartbeats 1000000
set_option maxRecDepth 100000
/-- What is read in one world alone may be walked as if in many. -/
theorem still_of_quiet {P : Program} {ops : Array Oper} {W : World} {Q : Act → Prop} : ∀ {l : List Oper} {a : Act}, wpQuiet P ops (fun w' => w' = W) Q l a → wpStill P ops W Q l a := by
  intro l
  induction l with
  | nil => exact fun h => h
  | cons o rest ih =>
    intro a h
    unfold wpQuiet at h
    unfold wpStill
    split at h
    · rename_i hw
      rw [if_pos hw]
      obtain ⟨v, hv, hn⟩ := h
      have h3 := hv W rfl
      unfold Oper.quietAt at h3
      unfold Oper.still
      generalize (execOp a.eval o).run P W = r at *
      cases r with
      | ok n w' =>
        cases n <;> simp only [Oper.quietUpon] at h3 <;> simp only [Oper.stillUpon]
        case value u =>
          obtain ⟨e1, e2⟩ := h3
          exact ⟨e1, by rw [e2]; exact ih hn⟩
        case skip =>
          obtain ⟨e1, e2⟩ := h3
          exact ⟨e1, by rw [← e2]; exact ih hn⟩
        case enter f args =>
          obtain ⟨e1, e2⟩ := h3
          exact ⟨e1, v, e2, ih hn⟩
      | halt _ _ => simp only [Oper.quietUpon] at h3
    · rename_i hw
      rw [if_neg hw]
      exact ih h
theorem ahead_lost {s : ByteArray} {p : Int} {g : Nat} {w : World} (h : Box w g #[.string s, .int .i64 p, .bool true]) : Calls Try.prog 69 #[.pointer (some ⟨g, 0, none⟩)] w fun e w' =>
    e = .panicked lost8 ∧ Below w.heap.size w w' := by
  obtain ⟨c0, c1, c2⟩ := (show Box w.drew g #[.string s, .int .i64 p, .bool true] from h.drew).three
  have KN := Lib.hid need_no
  have BL := Lib.hid ((Below.refl w.heap.size w).drew)
  clear h
  go_enter Try.func69, Try.ntmps69
  go_wp2_with fail
  refine wp_region_still_tail 24 (by kernel_rfl) (by kernel_rfl) ?_
  simp only [List.take_succ_cons, List.take_zero, List.drop_succ_cons, List.drop_zero]
  change wpStill _ _ w.drew _ _ _
  refine still_of_quiet ?_
  repeat (go_big_quiet_step (fail))
  refine wpQuiet_nil ?_
  change wpList _ _ _ _ _ w.drew
  generalize w.drew = W at *
  go_wp2_with fail
  refine (KN.out _).mono ?_
  rintro e z ⟨rfl, rfl⟩
  go_wp2_with fail
  exact ⟨rfl, rfl, BL.out⟩
theorem ahead_low {s : ByteArray} {p : Int} {g : Nat} {w : World} (h : Box w g #[.string s, .int .i64 p, .bool false]) (h0 : p < 0) : Calls Try.prog 69 #[.pointer (some ⟨g, 0, none⟩)] w fun e w' =>
    e = .panicked lost8 ∧ Below w.heap.size w w' := by
  obtain ⟨c0, c1, c2⟩ := (show Box w.drew g #[.string s, .int .i64 p, .bool false] from h.drew).three
  have KN := Lib.hid need_no
  have BL := Lib.hid ((Below.refl w.heap.size w).drew)
  have n0 : decide ((0 : Int) ≤ p) = false := decide_eq_false (by omega)
  clear h0
  clear h
  go_enter Try.func69, Try.ntmps69
  go_wp2_with fail
  refine wp_region_still_tail 24 (by kernel_rfl) (by kernel_rfl) ?_
  simp only [List.take_succ_cons, List.take_zero, List.drop_succ_cons, List.drop_zero]
  change wpStill _ _ w.drew _ _ _
  refine still_of_quiet ?_
  repeat (go_big_quiet_step (fail))
  refine wpQuiet_nil ?_
  change wpList _ _ _ _ _ w.drew
  generalize w.drew = W at *
  go_wp2_with fail
  refine (KN.out _).mono ?_
  rintro e z ⟨rfl, rfl⟩
  go_wp2_with fail
  exact ⟨rfl, rfl, BL.out⟩
theorem ahead_far {s : ByteArray} {p : Int} {g : Nat} {w : World} (h : Box w g #[.string s, .int .i64 p, .bool false]) (h0 : 0 ≤ p) (h1 : (s.size : Int) < p) : Calls Try.prog 69 #[.pointer (some ⟨g, 0, none⟩)] w fun e w' =>
    e = .panicked lost8 ∧ Below w.heap.size w w' := by
  obtain ⟨c0, c1, c2⟩ := (show Box w.drew g #[.string s, .int .i64 p, .bool false] from h.drew).three
  have KN := Lib.hid need_no
  have BL := Lib.hid ((Below.refl w.heap.size w).drew)
  have n1 : decide (p ≤ (s.size : Int)) = false := decide_eq_false (by omega)
  clear h1
  clear h
  go_enter Try.func69, Try.ntmps69
  go_wp2_with fail
  refine wp_region_still_tail 24 (by kernel_rfl) (by kernel_rfl) ?_
  simp only [List.take_succ_cons, List.take_zero, List.drop_succ_cons, List.drop_zero]
  change wpStill _ _ w.drew _ _ _
  refine still_of_quiet ?_
  repeat (go_big_quiet_step (fail))
  refine wpQuiet_nil ?_
  change wpList _ _ _ _ _ w.drew
  generalize w.drew = W at *
  go_wp2_with fail
  refine (KN.out _).mono ?_
  rintro e z ⟨rfl, rfl⟩
  go_wp2_with fail
  exact ⟨rfl, rfl, BL.out⟩
theorem ahead_no {s : ByteArray} {p : Int} {lo : Bool} {g : Nat} {w : World} (h : Box w g #[.string s, .int .i64 p, .bool lo]) (ok : okR s.size p lo = false) : Calls Try.prog 69 #[.pointer (some ⟨g, 0, none⟩)] w fun e w' =>
    e = .panicked lost8 ∧ Below w.heap.size w w' := by
  have := okR_no ok
  cases lo
  · by_cases h0 : p < 0
    · exact ahead_low h h0
    · rcases this with x | x | x
      · cases x
      · exact absurd x h0
      · exact ahead_far h (by omega) x
  · exact ahead_lost h
end Go.Proofs.Ytacobmnghdibaaa
namespace Go.Proofs.Ytacobmnghdibaaa
open Go.RowKit
set_option linter.unusedVariables false
set_option linter.unusedSimpArgs false
set_option maxHeartbeats 1000000
set_option maxRecDepth 100000
/-- The natural that begins here, and how many bytes it has, or none. -/
@[irreducible] noncomputable def natM (l : List UInt8) : Option (List Nat × Nat) :=
  open Classical in if (numOf l).2 ≠ 0 ∧ (numOf l).1 ≤ 64 ∧ (numOf l).2 + 4 * (numOf l).1 ≤ l.length ∧ Nt (lims (l.drop (numOf l).2) (numOf l).1) then some (lims (l.drop (numOf l).2) (numOf l).1, (numOf l).2 + 4 * (numOf l).1) else none
theorem natM_none {l : List UInt8} (h : numM l 64 = none) : natM l = none := by
  unfold natM
  rw [if_neg]
  intro x
  rw [numM_eq, if_pos ⟨x.1, x.2.1⟩] at h
  cases h
theorem natM_short {l : List UInt8} {n k : Nat} (h : numM l 64 = some (n, k)) (hs : ¬ k + 4 * n ≤ l.length) : natM l = none := by
  rw [numM_eq] at h
  split at h
  · injection h with h
    unfold natM
    rw [if_neg]
    intro x
    rw [h] at x
    exact hs x.2.2.1
  · cases h
theorem natM_bad {l : List UInt8} {n k : Nat} (h : numM l 64 = some (n, k)) (hs : ¬ Nt (lims (l.drop k) n)) : natM l = none := by
  rw [numM_eq] at h
  split at h
  · injection h with h
    unfold natM
    rw [if_neg]
    intro x
    rw [h] at x
    exact hs x.2.2.2
  · cases h
theorem natM_yes {l : List UInt8} {n k : Nat} (h : numM l 64 = some (n, k)) (hs : k + 4 * n ≤ l.length) (nt : Nt (lims (l.drop k) n)) : natM l = some (lims (l.drop k) n, k + 4 * n) := by
  rw [numM_eq] at h
  split at h
  · rename_i c
    injection h with h
    unfold natM
    rw [h] at c ⊢
    rw [if_pos ⟨c.1, c.2, hs, nt⟩]
  · cases h
theorem readA_natM (s : ByteArray) (p : Int) (lo : Bool) : readA s p lo = if okR s.size p lo = true then natM (L (restB s p lo)) else none := by
  have N := L_len (restB s p lo)
  by_cases h : okR s.size p lo = true
  · rw [if_pos h]
    unfold natM
    rw [N]
    by_cases c : (numOf (L (restB s p lo))).2 ≠ 0 ∧ (numOf (L (restB s p lo))).1 ≤ 64 ∧ (numOf (L (restB s p lo))).2 + 4 * (numOf (L (restB s p lo))).1 ≤ (restB s p lo).size ∧ Nt (lims ((L (restB s p lo)).drop (numOf (L (restB s p lo))).2) (numOf (L (restB s p lo))).1)
    · rw [if_pos c, readA_some ⟨h, c⟩]
    · rw [if_neg c, readA_none fun x => c x.2]
  · rw [if_neg h, readA_none fun x => h x.1]
/-- What nat answers. -/
def RetPA (x : Option (List Nat × Nat)) (b : ByteArray) (g : Nat) (w : World) (e : Ending) (w' : World) : Prop :=
  match x with
  | some (xs, k) => ∃ A n c, e = .returned (.slice A n c) ∧ Lim w' A n c xs ∧ (∀ ad, A = some ad → w.heap.size ≤ ad.block) ∧ Tk g #[.string (b.extract k b.size)] w w'
  | none => e = .panicked lost8 ∧ ∃ r : ByteArray, Tk g #[.string r] w w'
theorem RetPA.none_ {x : Option (List Nat × Nat)} {b : ByteArray} {g : Nat} {w W : World} {r : ByteArray} (hx : x = none) (h : Tk g #[.string r] w W) : RetPA x b g w (.panicked lost8) W := by rw [hx]; exact ⟨rfl, r, h⟩
theorem natW_any {b : ByteArray} {g : Nat} {w : World} (h : Box w g #[.string b]) (hs : b.size ≤ 281474976710656) : Calls Try.prog 49 #[.pointer (some ⟨g, 0, none⟩)] w fun e w' => RetPA (natM (L b)) b g w e w' := by
  have KY := Lib.hid need_yes
  have KN := Lib.hid need_no
  have KM := Lib.hid (number_any h 64 hs)
  cases hn : numM (L b) 64 with
  | none =>
    rw [hn] at KM
    have EN := Lib.hid (natM_none hn)
    clear hn h
    go_enter Try.func49, Try.ntmps49
    go_wp2_with fail
    refine KM.out.mono ?_
    rintro e z ⟨rfl, r, T⟩
    go_wp2_with fail
    exact ⟨rfl, RetPA.none_ EN.out T⟩
  | some x =>
    obtain ⟨n, k⟩ := x
    obtain ⟨l1, l2, l3⟩ := numM_le hn
    rw [L_len] at l1
    rw [hn, Option.map_some] at KM
    dsimp only at KM
    have wn : IntKind.i64.wrap (n : Int) = n := by rw [IntKind.wrap_i64]; omega
    have wn4 : IntKind.i64.wrap (4 * (n : Int)) = ((4 * n : Nat) : Int) := by rw [IntKind.wrap_i64]; omega
    have rs : (b.extract k b.size).size = b.size - k := by rw [ByteArray.size_extract]; omega
    have hlt := h.lt
    by_cases fits : k + 4 * n ≤ b.size
    · have BAD := Lib.hid (natM_bad hn)
      have YES := Lib.hid (natM_yes hn (by rw [L_len]; exact fits))
      have E2 : (b.extract k b.size).extract (4 * n) (b.extract k b.size).size = b.extract (k + 4 * n) b.size := L_inj (by
        rw [L_drop, L_drop, L_drop, List.drop_drop])
      have KT : Hid (∀ W, Box W g #[.string (b.extract k b.size)] → _) := fun W hW => take_yes (w := W) (n := 4 * n) hW (by omega) (by omega)
      rw [E2] at KT
      obtain ⟨tk, htk⟩ : ∃ t, t = (b.extract k b.size).extract 0 (4 * n) := ⟨_, rfl⟩
      rw [← htk] at KT
      have tsz : tk.size = 4 * n := by rw [htk, ByteArray.size_extract]; omega
      have TL : L tk = ((L b).drop k).take (4 * n) := by rw [htk, L_take, L_drop]
      have LT : ∀ j, j < n → ((L tk).drop (4 * j)).take 4 = (((L b).drop k).drop (4 * j)).take 4 := by
        intro j hj
        rw [TL, List.drop_take, List.take_take, Nat.min_eq_left (by omega)]
      obtain ⟨b1, hb1⟩ : ∃ x, x = b.extract k b.size := ⟨_, rfl⟩
      rw [← hb1] at KM KT
      obtain ⟨l, hl⟩ : ∃ x, x = (L b).drop k := ⟨_, rfl⟩
      rw [← hl] at LT BAD YES
      obtain ⟨i0, hi, hz0, hz1, hz2⟩ := info_parts info_u32
      have HI := Lib.hid hi; have HZ0 := Lib.hid hz0; have HZ1 := Lib.hid hz1; have HZ2 := Lib.hid hz2
      have HLT := Lib.hid hlt
      have HLTk := Lib.hid LT
      clear hn E2 rs fits l1 htk TL hb1 hl LT hi hz0 hz1 hz2 hlt hs h
      go_enter Try.func49, Try.ntmps49
      go_wp2_with fail
      refine KM.out.mono ?_
      rintro e z ⟨rfl, T⟩
      go_wp2_with fail
      refine (KT.out _ T.box).mono ?_
      rintro e W2 ⟨rfl, T2⟩
      replace T := T.trans T2
      clear T2 KM KT wn wn4
      have S0 : W2.ownsRow W2.heap.size 62 1 (.slice none 0 0) 0 ((lims l 0).map lv) := World.ownsRow_nil _ _ _ _
      go_wp2_with fail
      go_loopg [3, 4] n (fun q s3 s4 wr => ∃ (j : Nat) (cur : ByteArray), j + q = n ∧ s3 = .string cur ∧ Hid (cur = tk.extract (4 * j) tk.size) ∧ wr.ownsRow W2.heap.size 62 1 s4 j ((lims l j).map lv) ∧ Below W2.heap.size W2 wr)
      case atStart => exact ⟨0, tk, by omega, rfl, by unfold Hid; simp, S0, Below.refl _ _⟩
      case round =>
        clear S0
        obtain ⟨j, cur, hq, rfl, hc, po, BL⟩ := hrel
        have HQ := Lib.hid hq
        have PO := Lib.hid po
        have csz : cur.size = 4 * n - 4 * j := by rw [hc.out, ByteArray.size_extract]; omega
        by_cases lt : j < n
        · have c1 : (0 : Int) < cur.size := by omega
          have s3 : (4 : Int) ≤ cur.size := by omega
          obtain ⟨t4, ht4⟩ : ∃ x, x = cur.extract 0 4 := ⟨_, rfl⟩
          obtain ⟨c4, hc4⟩ : ∃ x, x = cur.extract 4 cur.size := ⟨_, rfl⟩
          have hsl : ∀ W : World, (Instr.slice 9 (.string cur) none (some (.int .i64 4)) none).run Try.prog W = .ok (.string t4) W := fun W => by
            rw [ht4]; exact run_slice_string_h W 9 cur Try.underlying9 .i64 4 (by decide) s3
          have h34 : ¬ (cur.size : Int) < 4 := by omega
          have hsl2 : ∀ W : World, (Instr.slice 9 (.string cur) (some (.int .i64 4)) none none).run Try.prog W = .ok (.string c4) W := fun W => by
            rw [hc4]; simp [go_sem, s3, h34, Try.underlying9]
          have KV : Hid (∀ W, _) := fun W => fromLowest_any t4 (by rw [ht4, ByteArray.size_extract]; omega) W
          have EX : L t4 = (l.drop (4 * j)).take 4 := by rw [ht4, L_take, hc.out, L_drop, HLTk.out j lt]
          have HC : Hid (c4 = tk.extract (4 * (j + 1)) tk.size) := by
            refine L_inj ?_
            rw [hc4, L_drop, hc.out, L_drop, L_drop, List.drop_drop]; rfl
          have x4 := vle_lt (L t4)
          have x5 : vle (L t4) < 4294967296 := Nat.lt_of_lt_of_le x4 (Nat.le_trans (Nat.pow_le_pow_right (by decide) (by rw [EX, List.length_take]; exact Nat.min_le_left _ _)) (by decide : 256 ^ 4 ≤ 4294967296))
          have SN : lims l (j + 1) = lims l j ++ [vle (L t4)] := by rw [lims_snoc, EX]
          generalize vle (L t4) = x at *
          have wx : IntKind.u32.wrap (x : Int) = x := by rw [IntKind.wrap_u32]; omega
          have hb2 : W2.heap.size ≤ wr.heap.size := BL.size
          have KS : Hid (∀ (v2 : Value) (w2 : World) (o : Obj), w2.ownsRow W2.heap.size 62 1 v2 (j + 1) ((lims l j).map lv ++ [lv x]) → (wr.alloc o).grownBy w2 (Value.ownBlock u4) → w2.ownsRow W2.heap.size 62 1 v2 (j + 1) ((lims l (j + 1)).map lv) ∧ Below W2.heap.size W2 w2) := by
            intro v2 w2 o h1 h2
            refine ⟨by rw [SN, List.map_append]; exact h1, (BL.alloc BL.size o).grown h2 (by have := BL.size; simp; omega) (own_base8 po)⟩
          generalize (lims l j).map lv = ys at *
          clear hq po BL x4 EX SN ht4 hc4 hc csz
          go_wp2_with fail
          refine (KV.out _).mono ?_
          rintro e z ⟨rfl, rfl⟩
          go_wp2_with (at_builtin; refine wpList_append_own _ rfl _ _ 24 rfl W2.heap.size 62 i0 (.int .u32 0) 1 4 Try.underlying24 HI.out HZ0.out HZ1.out HZ2.out rfl (by decide) _ j ys rfl (PO.out.alloc _) ⟨wr.heap.size, 0, none⟩ 1 1 [lv x] rfl rfl ?qc2 ?qc3 ?qc4 ?qc5 ?qc6 ?_)
          case qc2 => first | exact cell_one_new wr _ _ | exact fun _ _ h => h
          case qc3 => first | (intro u hu; rw [List.mem_singleton] at hu; rw [hu]; rfl) | rfl
          case qc4 => unfold maxLen; omega
          case qc5 => omega
          case qc6 => first | omega | (simp; omega)
          intro v9 w9 hown hg _
          have STh := Lib.hid (KS.out v9 w9 _ hown hg)
          clear hown hg
          go_wp2_with fail
          go_roundg (gk - 1)
          case measure => have := HQ.out; omega
          case rel =>
            go_light
            exact ⟨j + 1, c4, by have := HQ.out; omega, rfl, HC, STh.out.1, STh.out.2⟩
        · obtain rfl : j = n := by omega
          have c1 : ¬ (0 : Int) < cur.size := by omega
          have OB := own_base8 po
          obtain ⟨A2, c2', rfl, L2⟩ := own_lim po (lims_lo _ _)
          have NE : Hid (∀ ad, A2 = some ad → W2.heap.size ≤ ad.block) := by
            rintro ad rfl
            exact OB ad.block (by simp [Value.ownBlock])
          have T9 := Lib.hid (T.next BL)
          have SZ := Lib.hid T.size
          have KR := Lib.hid (right_any L2)
          have LH := Lib.hid L2
          generalize lims l j = xs at *
          clear hq po BL PO OB L2 csz hc
          by_cases nt : Nt xs
          · rw [ntB_yes nt] at KR
            have R := Lib.hid (YES.out nt)
            clear nt YES BAD
            go_wp2_with fail
            refine KR.out.mono ?_
            rintro e z ⟨rfl, rfl⟩
            go_wp2_with fail
            refine (KY.out _).mono ?_
            rintro e z ⟨rfl, rfl⟩
            go_wp2_with fail
            go_ret
            rw [R.out]
            exact ⟨A2, j, c2', rfl, LH.out, fun ad ha => Nat.le_trans SZ.out (NE.out ad ha), T9.out⟩
          · rw [ntB_no nt] at KR
            have R := Lib.hid (BAD.out nt)
            clear nt YES BAD
            go_wp2_with fail
            refine KR.out.mono ?_
            rintro e z ⟨rfl, rfl⟩
            go_wp2_with fail
            refine (KN.out _).mono ?_
            rintro e z ⟨rfl, rfl⟩
            go_wp2_with fail
            exact ⟨rfl, RetPA.none_ R.out T9.out⟩
    · have EN := Lib.hid (natM_short hn (by rw [L_len]; exact fits))
      have KT : Hid (∀ W, Box W g #[.string (b.extract k b.size)] → _) := fun W hW => take_no (w := W) (n := 4 * n) hW (by omega)
      generalize b.extract k b.size = b1 at *
      clear hn rs fits l1 hs h hlt
      go_enter Try.func49, Try.ntmps49
      go_wp2_with fail
      refine KM.out.mono ?_
      rintro e z ⟨rfl, T⟩
      go_wp2_with fail
      refine (KT.out _ T.box).mono ?_
      rintro e z2 ⟨rfl, rfl⟩
      go_wp2_with fail
      exact ⟨rfl, RetPA.none_ EN.out T⟩
end Go.Proofs.Ytacobmnghdibaaa
namespace Go.Proofs.Ytacobmnghdibaaa
open Go.RowKit
set_option linter.unusedVariables false
set_option linter.unusedSimpArgs false

/-- Blocks of two cells that lie there, with what is in them. -/
def Cels : List (Nat × Value × Value) → World → Prop
  | [], _ => True
  | (b, u, v) :: r, w => (w.cell? ⟨b, 0, none⟩ = some u ∧ w.cell? ⟨b, 1, none⟩ = some v ∧ w.frozen? ⟨b, 0, none⟩ = false ∧ w.frozen? ⟨b, 1, none⟩ = false ∧ b < w.heap.size) ∧ Cels r w
theorem Cels.next {w w' : World} (hb : Below w.heap.size w w') : ∀ {l : List (Nat × Value × Value)}, Cels l w → Cels l w'
  | [], _ => trivial
  | (_, _, _) :: _, h => ⟨⟨keep_cell hb h.1.1, keep_cell hb h.1.2.1, keep_melt hb h.1.1 h.1.2.2.1, keep_melt hb h.1.2.1 h.1.2.2.2.1, Nat.lt_of_lt_of_le h.1.2.2.2.2 hb.size⟩, Cels.next hb h.2⟩
/-- What lies there, in a call that began at w. -/
structure Fs (w : World) (cs : List (Nat × Value × Value)) (l : List (Option Addr × Nat × Nat × List Nat)) (wx : World) : Prop where
  lie : Lies l wx
  cel : Cels cs wx
  bl : Below w.heap.size w wx
section
variable {w W w1 : World} {cs : List (Nat × Value × Value)} {l : List (Option Addr × Nat × Nat × List Nat)}
theorem Fs.start (w : World) : Fs w [] [] w := ⟨trivial, trivial, Below.refl _ _⟩
theorem Fs.next (s : Fs w cs l W) (hb : Below W.heap.size W w1) : Fs w cs l w1 := ⟨s.lie.next hb, s.cel.next hb, below_step s.bl hb⟩
theorem Fs.drew (s : Fs w cs l W) : Fs w cs l W.drew := s.next (Below.refl _ _).drew
theorem Fs.put {A : Option Addr} {n c : Nat} {xs : List Nat} (s : Fs w cs l W) (h : Lim W A n c xs) : Fs w cs ((A, n, c, xs) :: l) W := ⟨⟨h, s.lie⟩, s.cel, s.bl⟩
theorem Fs.box (s : Fs w cs l W) (u v : Value) : Fs w ((W.heap.size, u, v) :: cs) l (W.alloc (.cells #[u, v] 26)) := by
  have hb : Below W.heap.size W (W.alloc (.cells #[u, v] 26)) := (Below.refl _ _).alloc (Nat.le_refl _) _
  exact ⟨s.lie.next hb, ⟨⟨by simp [go_sem], by simp [go_sem], by simp [go_sem], by simp [go_sem], by simp⟩, s.cel.next hb⟩, below_step s.bl hb⟩
end
theorem Lim.setSl {w : World} {A B : Option Addr} {n c m k : Nat} {xs : List Nat} {p : Addr} (h : Lim w A n c xs) (hc : w.cell? p = some (.slice B m k)) (u : Value) : Lim (w.setCell p u) A n c xs :=
  ⟨h.len, h.cap, h.top, fun j hj => by
    obtain ⟨ad, e, q⟩ := h.at_ j hj
    exact ⟨ad, e, (World.cell?_setCell_other _ _ _ _ (fun z => by first | (rw [z, hc] at q; cases q) | (rw [← z, hc] at q; cases q))).trans q⟩, h.lo⟩
theorem Lim.put2 {w : World} {A B B' : Option Addr} {n c m k m' k' R : Nat} {xs : List Nat} (h : Lim w A n c xs) (c0 : w.cell? ⟨R, 0, none⟩ = some (.slice B m k)) (c1 : w.cell? ⟨R, 1, none⟩ = some (.slice B' m' k')) (u v : Value) : Lim ((w.setCell ⟨R, 0, none⟩ u).setCell ⟨R, 1, none⟩ v) A n c xs :=
  (h.setSl c0 u).setSl (B := B') (m := m') (k := k') ((World.cell?_setCell_other _ _ _ _ (by simp)).trans c1) v

/-- It is a fraction. -/
def Fr (xs ys : List Nat) : Prop := Nt xs ∧ Nt ys ∧ ys ≠ [] ∧ Nat.gcd (val xs) (val ys) = 1
open Classical in
/-- .. as a bool. -/
@[irreducible] noncomputable def frB (xs ys : List Nat) : Bool := decide (Fr xs ys)
open Classical in
theorem frB_yes {xs ys : List Nat} (h : Fr xs ys) : frB xs ys = true := by unfold frB; exact decide_eq_true h
open Classical in
theorem frB_no {xs ys : List Nat} (h : ¬ Fr xs ys) : frB xs ys = false := by unfold frB; exact decide_eq_false h

set_option maxHeartbeats 1000000 in
set_option maxRecDepth 100000 in
theorem ratRight_none {A A' : Option Addr} {n c c' : Nat} {w : World} : Calls Try.prog 35 #[.agg #[.slice A n c, .slice A' 0 c']] w fun e w' => e = .returned (.bool false) ∧ Below w.heap.size w w' := by
  go_enter Try.func35, Try.ntmps35
  go_wp2_with fail
  go_ret
  exact ⟨rfl, (Below.refl _ _).alloc (Nat.le_refl _) _⟩
set_option maxHeartbeats 1000000 in
set_option maxRecDepth 100000 in
theorem ratRight_bad {A A' : Option Addr} {n c n' c' : Nat} {xs ys : List Nat} {w : World} (ha : Lim w A n c xs) (hb : Lim w A' n' c' ys) (h0 : n' ≠ 0) (h : NoTwo xs ys) : Calls Try.prog 35 #[.agg #[.slice A n c, .slice A' n' c']] w fun e w' => e = .returned (.bool false) ∧ Below w.heap.size w w' := by
  have i0 : ((n' : Int) == 0) = false := by simp; omega
  have B0 : Below w.heap.size w (w.alloc (.cells #[.slice A n c, .slice A' n' c'] 26)) := (Below.refl _ _).alloc (Nat.le_refl _) _
  have K := Lib.hid (gcd_none (ha.next B0) (hb.next B0) h)
  clear ha hb h h0
  go_enter Try.func35, Try.ntmps35
  go_wp2_with fail
  refine K.out.mono ?_
  rintro e w' ⟨rfl, rfl⟩
  go_wp2_with fail
  go_ret
  exact ⟨rfl, B0⟩
theorem sgn_one (g : Nat) : (sgn g 1 == 0) = (g == 1) := by
  by_cases h : g = 1
  · subst h; rw [sgn_eq]; rfl
  · rw [show (g == 1) = false by simpa using h]
    rcases Nat.lt_or_gt_of_ne h with k | k
    · rw [sgn_lt k]; rfl
    · rw [sgn_gt k]; rfl
theorem ln_gcd {a b : Nat} (la : ln a ≤ 64) (lb : ln b ≤ 64) : ln (Nat.gcd a b) ≤ 64 := by
  by_cases z : a = 0
  · subst z; rw [Nat.gcd_zero_left]; exact lb
  · exact Nat.le_trans (ln_mono (Nat.gcd_le_left _ (by omega))) la
set_option maxHeartbeats 1000000 in
set_option maxRecDepth 100000 in
theorem ratRight_nat {A A' : Option Addr} {n c n' c' a b : Nat} {w : World} (ha : Lim w A n c (limbs a)) (hb : Lim w A' n' c' (limbs b)) (h0 : n' ≠ 0) (la : ln a ≤ 64) (lb : ln b ≤ 64) : Calls Try.prog 35 #[.agg #[.slice A n c, .slice A' n' c']] w fun e w' => e = .returned (.bool (Nat.gcd a b == 1)) ∧ Below w.heap.size w w' := by
  have i0 : ((n' : Int) == 0) = false := by simp; omega
  have B0 : Below w.heap.size w (w.alloc (.cells #[.slice A n c, .slice A' n' c'] 26)) := (Below.refl _ _).alloc (Nat.le_refl _) _
  have K := Lib.hid (gcd_any (ha.next B0) (hb.next B0) la lb)
  have K1 : Hid (∀ W, Calls Try.prog 63 #[.int .u64 1] W fun e w' => RetN 1 W e w') := fun W => of_any 1 (by decide) W
  have lg := ln_gcd la lb
  obtain ⟨g, hg⟩ : ∃ g, Nat.gcd a b = g := ⟨_, rfl⟩
  rw [hg] at K lg ⊢
  have E := Lib.hid (sgn_one g)
  clear ha hb h0 la lb hg
  go_enter Try.func35, Try.ntmps35
  go_wp2_with fail
  refine K.out.mono ?_
  rintro e w1 ⟨A1, n1, c1, rfl, L1, B1⟩
  have S := (((Sts.start w).next B0).next B1).put L1
  clear L1 B1 B0 K
  go_wp2_with fail
  refine (K1.out _).mono ?_
  rintro e w2 ⟨A2, n2, c2, rfl, L2, B2⟩
  have S := (S.next B2).put L2
  clear L2 B2
  go_wp2_with fail
  refine (cmp_bel S.lie.2.1 S.lie.1 lg (ln_tiny (by decide))).mono ?_
  rintro e w3 ⟨rfl, B3⟩
  have S := S.next B3
  clear B3
  go_wp2_with fail
  go_ret
  refine ⟨?_, S.bl⟩
  rw [← E.out]
  rfl
theorem ratRight_any {A A' : Option Addr} {n c n' c' : Nat} {xs ys : List Nat} {w : World} (ha : Lim w A n c xs) (hb : Lim w A' n' c' ys) : Calls Try.prog 35 #[.agg #[.slice A n c, .slice A' n' c']] w fun e w' => e = .returned (.bool (frB xs ys)) ∧ Below w.heap.size w w' := by
  by_cases h0 : n' = 0
  · subst h0
    rw [frB_no (fun h => h.2.2.1 (List.length_eq_zero_iff.1 hb.len))]
    exact ratRight_none
  · by_cases h : Nt xs ∧ Nt ys
    · have e1 := h.1.eq ha.lo
      have e2 := h.2.eq hb.lo
      have l1 : ln (val xs) = n := by rw [← limbs_length, ← e1]; exact ha.len
      have l2 : ln (val ys) = n' := by rw [← limbs_length, ← e2]; exact hb.len
      have m1 := h.1.1; have m2 := h.2.1
      have q1 := ha.len; have q2 := hb.len
      have K := ratRight_nat (e1 ▸ ha) (e2 ▸ hb) h0 (by omega) (by omega)
      have : frB xs ys = (Nat.gcd (val xs) (val ys) == 1) := by
        by_cases k : Nat.gcd (val xs) (val ys) = 1
        · rw [show (Nat.gcd (val xs) (val ys) == 1) = true by simpa using k]; exact frB_yes ⟨h.1, h.2, fun z => by subst z; simp at q2; omega, k⟩
        · rw [show (Nat.gcd (val xs) (val ys) == 1) = false by simpa using k]; exact frB_no fun f => k f.2.2.2
      rw [this]; exact K
    · rw [frB_no fun f => h ⟨f.1, f.2.1⟩]
      exact ratRight_bad ha hb h0 h

/-- A fraction in plain numbers. -/
structure Fq (p q : Nat) : Prop where
  lp : ln p ≤ 64
  lq : ln q ≤ 64
  q0 : q ≠ 0
  co : Nat.gcd p q = 1
theorem Fr.num {xs ys : List Nat} (h : Fr xs ys) (l1 : Lo xs) (l2 : Lo ys) : Fq (val xs) (val ys) ∧ xs = limbs (val xs) ∧ ys = limbs (val ys) := by
  have e1 := h.1.eq l1
  have e2 := h.2.1.eq l2
  have a1 : ln (val xs) = xs.length := by rw [← limbs_length, ← e1]
  have a2 : ln (val ys) = ys.length := by rw [← limbs_length, ← e2]
  have m1 := h.1.1; have m2 := h.2.1.1
  refine ⟨⟨by omega, by omega, fun z => ?_, h.2.2.2⟩, e1, e2⟩
  rw [z, limbs_zero] at e2
  exact h.2.2.1 e2
theorem Fq.fr {p q : Nat} (h : Fq p q) : Fr (limbs p) (limbs q) := ⟨.of h.lp, .of h.lq, fun z => h.q0 (by rw [← val_limbs q, z, val_nil]), by rw [val_limbs, val_limbs]; exact h.co⟩

/-- A pair of naturals and an error's number. -/
abbrev Ans := Nat × Nat × Int
/-- What a call answers that makes a fraction. -/
def RetR (p q : Nat) (w : World) (e : Ending) (w' : World) : Prop := ∃ A n c A' n' c', e = .returned (.agg #[.slice A n c, .slice A' n' c']) ∧ Lim w' A n c (limbs p) ∧ Lim w' A' n' c' (limbs q) ∧ Below w.heap.size w w'
/-- .. and an error. -/
def RetA3 (r : Ans) (w : World) (e : Ending) (w' : World) : Prop := ∃ A n c A' n' c', e = .returned (.tuple #[.agg #[.slice A n c, .slice A' n' c'], .int .i64 r.2.2]) ∧ Lim w' A n c (limbs r.1) ∧ Lim w' A' n' c' (limbs r.2.1) ∧ Below w.heap.size w w'

end Go.Proofs.Ytacobmnghdibaaa
namespace Go.Proofs.Ytacobmnghdibaaa
open Go.RowKit
set_option linter.unusedVariables false
set_option linter.unusedSimpArgs false

set_option maxHeartbeats 1000000 in
set_option maxRecDepth 100000 in
theorem same3_any {A A' D D' : Option Addr} {n c n' c' m k m' k' : Nat} {xs ys us vs : List Nat} {w : World} (ha : Lim w A n c xs) (ha' : Lim w A' n' c' ys) (hb : Lim w D m k us) (hb' : Lim w D' m' k' vs) : Calls Try.prog 30 #[.agg #[.slice A n c, .slice A' n' c'], .agg #[.slice D m k, .slice D' m' k']] w fun e w' => e = .returned (.bool (sameB xs us && sameB ys vs)) ∧ Below w.heap.size w w' := by
  have S := (((((Fs.start w).put ha).put ha').put hb).put hb').box (.slice A n c) (.slice A' n' c') |>.box (.slice D m k) (.slice D' m' k')
  simp only [World.size_alloc] at S
  clear ha ha' hb hb'
  go_enter Try.func30, Try.ntmps30
  go_wp2_with fail
  generalize (w.alloc (.cells #[.slice A n c, .slice A' n' c'] 26)).alloc (.cells #[.slice D m k, .slice D' m' k'] 26) = w0 at *
  refine (same_bel S.lie.2.2.2.1 S.lie.2.1).mono ?_
  rintro e w1 ⟨rfl, B1⟩
  have S := S.next B1
  clear B1
  obtain ⟨⟨b0, b1, -⟩, ⟨a0, a1, -⟩, -⟩ := S.cel
  by_cases q : sameB xs us = true
  · rw [q]
    go_wp2_with fail
    refine (same_bel S.lie.2.2.1 S.lie.1).mono ?_
    rintro e w2 ⟨rfl, B1⟩
    have S := S.next B1
    clear B1 a0 a1 b0 b1
    have Q := Lib.hid q
    clear q
    go_wp2_with fail
    go_ret
    exact ⟨by rw [Q.out, Bool.true_and]; rfl, S.bl⟩
  · have q : sameB xs us = false := by simpa using q
    rw [q]
    have Q := Lib.hid q
    clear q
    go_wp2_with fail
    go_ret
    exact ⟨by rw [Q.out, Bool.false_and]; rfl, S.bl⟩
theorem same3_yes {A A' D D' : Option Addr} {n c n' c' m k m' k' : Nat} {xs ys : List Nat} {w : World} (ha : Lim w A n c xs) (ha' : Lim w A' n' c' ys) (hb : Lim w D m k xs) (hb' : Lim w D' m' k' ys) : Calls Try.prog 30 #[.agg #[.slice A n c, .slice A' n' c'], .agg #[.slice D m k, .slice D' m' k']] w fun e w' => e = .returned (.bool true) ∧ Below w.heap.size w w' := by
  have K := same3_any ha ha' hb hb'
  rw [sameB_yes, sameB_yes] at K
  exact K

end Go.Proofs.Ytacobmnghdibaaa
