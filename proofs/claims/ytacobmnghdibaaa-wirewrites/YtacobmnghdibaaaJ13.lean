/- The program's walks of asked and of Number, Text. The program's walks of asked and of Text. The program's walks of asked and of Nat. -/
import Derived.Test.YtacobmnghdibaaaJ12
namespace Go.Proofs.Ytacobmnghdibaaa
open Go.RowKit
set_option linter.unusedVariables false
set_option linter.unusedSimpArgs false
set_option maxHeartbeats 1000000
set_option maxRecDepth 100000
theorem Tk.other {w W W' : World} {g l : Nat} {cs ds : Array Value} (h : Tk g cs w W) (t : Tk l ds W W') (hl : w.heap.size ≤ l) (hn : l ≠ g) : Tk g cs w W' :=
  ⟨h.box.tk t hn.symm, t.os.trans h.os, t.tape.trans h.tape, t.output.trans h.output, Nat.le_trans h.size t.size, fun k hk hk2 => (t.block k (Nat.lt_of_lt_of_le hk h.size) (by omega)).trans (h.block k hk hk2)⟩
theorem num1_any {b : ByteArray} {g m : Nat} {w : World} (h : Box w g #[.string b]) (most : Nat) (hm : w.cell? ⟨m, 0, none⟩ = some (.int .u64 (most : Int))) (hs : b.size ≤ 281474976710656) : Calls Try.prog 42 #[.pointer (some ⟨g, 0, none⟩), .pointer (some ⟨m, 0, none⟩)] w fun e w' =>
    RetP ((numM (L b) most).map fun x => (.int .u64 (x.1 : Int), b.extract x.2 b.size)) g w e w' := by
  have K := Lib.hid (number_any h most hs)
  go_enter Try.func42, Try.ntmps42
  cases hn : numM (L b) most with
  | none =>
    rw [hn] at K
    clear hn
    go_wp2_with fail
    refine K.out.mono ?_
    rintro e z ⟨rfl, r, T⟩
    go_wp2_with fail
    exact ⟨rfl, rfl, r, T⟩
  | some x =>
    rw [hn] at K
    clear hn
    go_wp2_with fail
    refine K.out.mono ?_
    rintro e z ⟨rfl, T⟩
    go_wp2_with fail
    go_ret
    exact ⟨rfl, T⟩
theorem askedN_any {s : ByteArray} {p : Int} {lo : Bool} {g m : Nat} {w : World} (h : Box w g #[.string s, .int .i64 p, .bool lo]) (most : Nat) (hm : w.cell? ⟨m, 0, none⟩ = some (.int .u64 (most : Int))) (hne : m ≠ g) (hs : s.size ≤ 281474976710656) :
    Calls Try.prog 41 #[.pointer (some ⟨g, 0, none⟩), .func (.func 42) #[] #[.pointer (some ⟨m, 0, none⟩)]] w fun e w' =>
      e = .returned (.int .u64 (((readN s p lo most).getD (0, 0)).1 : Int)) ∧ Tk g (rdc s p ((readN s p lo most).map Prod.snd)) w w' := by
  have hmf : ∀ (fn : Fn) (first cap : Array Value) (w : World), (Instr.makeFunc fn first cap).run Try.prog w = .ok (.func fn first cap) w := fun _ _ _ _ => rfl
  rw [readN_numM s p lo most]
  have hlt := h.lt
  have T : Tk g #[.string s, .int .i64 p, .bool lo] w (w.alloc (.cells #[.pointer (some ⟨g, 0, none⟩)] 39)) := (Tk.refl h).alloc _
  have Q := Box.new w #[.pointer (some ⟨g, 0, none⟩)] 39
  replace hm := keep_alloc hm (.cells #[.pointer (some ⟨g, 0, none⟩)] 39)
  obtain ⟨q, hq⟩ : ∃ q, w.heap.size = q := ⟨_, rfl⟩
  rw [hq] at Q
  have gq : Hid (q ≠ g) := by unfold Hid; omega
  have wq : Hid (w.heap.size ≤ q) := by unfold Hid; omega
  clear hlt h
  cases ok : okR s.size p lo with
  | false =>
    rw [if_neg (by decide)]
    have KA : Hid (∀ W, Box W g #[.string s, .int .i64 p, .bool lo] → _) := fun W hW => ahead_no (w := W) hW ok
    clear ok
    go_enter_defers Try.func41, Try.ntmps41
    go_wp2_with fail
    clear hq
    generalize w.alloc (.cells #[.pointer (some ⟨g, 0, none⟩)] 39) = W at *
    have c0 := Q.cell (i := 0) rfl
    go_wp2_with fail
    refine (KA.out _ T.box).mono ?_
    rintro e z ⟨rfl, B1⟩
    replace T := T.next B1
    replace Q := Q.next B1
    clear B1 c0
    go_wp2_with fail
    refine leaves_cons (f := 68) (args := #[.pointer (some ⟨q, 0, none⟩)]) (by simp) (by simp [go_sem]) ?_
    refine (catchN_lost (g := g) (s := s) (p := p) (lo := lo) (Q.cell (i := 0) rfl) T.box).mono ?_
    rintro e u' w'' ⟨rfl, rfl, rfl⟩
    have TT : Tk g #[.string s, .int .i64 p, .bool true] w _ := T.set 2 (.bool true)
    simp [Leaves, settle, results, Try.results41, go_sem]
    exact TT
  | true =>
    obtain ⟨rfl, i, rfl, hi⟩ := okR_yes ok
    rw [if_pos rfl, restB_yes hi]
    have KA : Hid (∀ W, Box W g #[.string s, .int .i64 (i : Int), .bool false] → _) := fun W hW => ahead_yes (w := W) hW hi hs
    obtain ⟨b, hb⟩ : ∃ b, b = s.extract i s.size := ⟨_, rfl⟩
    have bsz : b.size = s.size - i := by rw [hb, ByteArray.size_extract]; omega
    rw [← hb] at KA ⊢
    have KB : Hid (∀ W l, Box W l #[.string b] → W.cell? ⟨m, 0, none⟩ = some (.int .u64 (most : Int)) → _) := fun W l hW hc => num1_any (w := W) (g := l) hW most hc (by omega)
    clear ok hb
    cases hn : numM (L b) most with
    | none =>
      rw [hn] at KB
      clear hn bsz hi hs
      go_enter_defers Try.func41, Try.ntmps41
      go_wp2_with fail
      clear hq
      generalize w.alloc (.cells #[.pointer (some ⟨g, 0, none⟩)] 39) = W at *
      have c0 := Q.cell (i := 0) rfl
      go_wp2_with fail
      refine (KA.out _ T.box).mono ?_
      rintro e z ⟨l, rfl, hl, BX, B1⟩
      have lg : Hid (l ≠ g) := by have := T.box.lt; unfold Hid; omega
      have lw : Hid (w.heap.size ≤ l) := by have := T.size; unfold Hid; omega
      have lq : Hid (l ≠ q) := by have := Q.lt; unfold Hid; omega
      replace T := T.next B1
      replace Q := Q.next B1
      replace hm := keep_cell B1 hm
      clear B1 c0 hl
      go_wp2_with fail
      refine (KB.out _ _ BX hm).mono ?_
      rintro e z2 ⟨rfl, r9, T2⟩
      have TG : Box z2 g _ := T.box.tk T2 lg.out.symm
      have T9 : Tk g #[.string s, .int .i64 (i : Int), .bool false] w z2 := T.other T2 lw.out lg.out
      replace Q := Q.tk T2 lq.out.symm
      clear T2 BX hm
      go_wp2_with fail
      refine leaves_cons (f := 68) (args := #[.pointer (some ⟨q, 0, none⟩)]) (by simp) (by simp [go_sem]) ?_
      refine (catchN_lost (g := g) (s := s) (p := (i : Int)) (lo := false) (Q.cell (i := 0) rfl) T9.box).mono ?_
      rintro e u' w'' ⟨rfl, rfl, rfl⟩
      have TT : Tk g #[.string s, .int .i64 (i : Int), .bool true] w _ := T9.set 2 (.bool true)
      simp [Leaves, settle, results, Try.results41, go_sem]
      exact TT
    | some x =>
      obtain ⟨n, k⟩ := x
      have kl := (numM_le hn).1
      rw [L_len] at kl
      rw [hn, Option.map_some] at KB
      dsimp only at KB
      obtain ⟨b2, hb2⟩ : ∃ x, x = b.extract k b.size := ⟨_, rfl⟩
      have b2s : b2.size = b.size - k := by rw [hb2, ByteArray.size_extract]; omega
      rw [← hb2] at KB
      obtain ⟨j, hj⟩ : ∃ j : Int, j = (i : Int) + (k : Int) := ⟨_, rfl⟩
      have ew : IntKind.i64.wrap ((s.size : Int) - b2.size) = j := by rw [IntKind.wrap_i64]; omega
      have HJ := Lib.hid hj
      clear hn bsz hi hs hb2 b2s kl hj
      go_enter_defers Try.func41, Try.ntmps41
      go_wp2_with fail
      clear hq
      generalize w.alloc (.cells #[.pointer (some ⟨g, 0, none⟩)] 39) = W at *
      have c0 := Q.cell (i := 0) rfl
      go_wp2_with fail
      refine (KA.out _ T.box).mono ?_
      rintro e z ⟨l, rfl, hl, BX, B1⟩
      have lg : Hid (l ≠ g) := by have := T.box.lt; unfold Hid; omega
      have lw : Hid (w.heap.size ≤ l) := by have := T.size; unfold Hid; omega
      have lq : Hid (l ≠ q) := by have := Q.lt; unfold Hid; omega
      replace T := T.next B1
      replace Q := Q.next B1
      replace hm := keep_cell B1 hm
      clear B1 c0 hl
      go_wp2_with fail
      refine (KB.out _ _ BX hm).mono ?_
      rintro e z2 ⟨rfl, T2⟩
      have T9 : Tk g #[.string s, .int .i64 (i : Int), .bool false] w z2.drew := (T.other T2 lw.out lg.out).drew
      replace Q := (Q.tk T2 lq.out.symm).drew
      have BL := T2.box.drew
      clear T2 BX hm T
      go_wp2_with fail
      refine wp_region_still_tail 14 (by kernel_rfl) (by kernel_rfl) ?_
      simp only [List.take_succ_cons, List.take_zero, List.drop_succ_cons, List.drop_zero]
      change wpStill _ _ z2.drew _ _ _
      have c0 := Q.cell (i := 0) rfl
      obtain ⟨c1, c2, c3⟩ := T9.box.three
      have c4 := BL.cell (i := 0) rfl
      have m1 := T9.box.melt 1
      refine still_of_quiet ?_
      repeat (go_big_quiet_step (fail))
      refine wpQuiet_nil ?_
      change wpList _ _ _ _ _ z2.drew
      generalize z2.drew = Z at *
      go_wp2_with fail
      refine leaves_cons (f := 68) (args := #[.pointer (some ⟨q, 0, none⟩)]) (by simp) (by simp [go_sem]) ?_
      refine (catchN_idle ⟨q, 0, none⟩ _).mono ?_
      rintro e u' w'' ⟨rfl, rfl, rfl⟩
      have TT : Tk g #[.string s, .int .i64 j, .bool false] w _ := T9.set 1 (.int .i64 j)
      simp [Leaves, settle, results, Try.results41, go_sem]
      rw [HJ.out] at TT ⊢
      exact TT
theorem rNumber_any {s : ByteArray} {p : Int} {lo : Bool} {g : Nat} {w : World} (h : Box w g #[.string s, .int .i64 p, .bool lo]) (most : Nat) (hs : s.size ≤ 281474976710656) :
    Calls Try.prog 24 #[.pointer (some ⟨g, 0, none⟩), .int .u64 (most : Int)] w fun e w' =>
      e = .returned (.int .u64 (((readN s p lo most).getD (0, 0)).1 : Int)) ∧ Tk g (rdc s p ((readN s p lo most).map Prod.snd)) w w' := by
  have hmf : ∀ (fn : Fn) (first cap : Array Value) (w : World), (Instr.makeFunc fn first cap).run Try.prog w = .ok (.func fn first cap) w := fun _ _ _ _ => rfl
  have hlt := h.lt
  have B0 : Below w.heap.size w (w.alloc (.cells #[.int .u64 (most : Int)] 22)) := below_al (Below.refl _ _) _
  have Q := Box.new w #[.int .u64 (most : Int)] 22
  obtain ⟨m, hq⟩ : ∃ q, w.heap.size = q := ⟨_, rfl⟩
  rw [hq] at Q
  have K := Lib.hid (askedN_any (h.next B0) most (Q.cell (i := 0) rfl) (show m ≠ g by omega) hs)
  have HB := Lib.hid B0
  clear hlt h Q B0
  go_enter Try.func24, Try.ntmps24
  go_wp2_with fail
  clear hq
  generalize w.alloc (.cells #[.int .u64 (most : Int)] 22) = W at *
  refine K.out.mono ?_
  rintro e z ⟨rfl, T⟩
  go_wp2_with fail
  go_ret
  exact ⟨rfl, T.pre HB.out⟩
end Go.Proofs.Ytacobmnghdibaaa
namespace Go.Proofs.Ytacobmnghdibaaa
open Go.RowKit
set_option linter.unusedVariables false
set_option linter.unusedSimpArgs false
set_option maxHeartbeats 1000000
set_option maxRecDepth 100000
theorem textM_le {l : List UInt8} {most : Int} {n k : Nat} (h : textM l most = some (n, k)) : k + n ≤ l.length := by
  rw [textM_eq] at h
  split at h
  · rename_i c
    injection h with h
    rw [h] at c
    have := c.2.2.2
    dsimp only at this
    omega
  · cases h
theorem txt1_any {b : ByteArray} {g m : Nat} {w : World} (h : Box w g #[.string b]) (most : Int) (mb : -9223372036854775808 ≤ most ∧ most ≤ 9223372036854775807) (hm : w.cell? ⟨m, 0, none⟩ = some (.int .i64 most)) (hs : b.size ≤ 281474976710656) : Calls Try.prog 45 #[.pointer (some ⟨g, 0, none⟩), .pointer (some ⟨m, 0, none⟩)] w fun e w' =>
    RetP ((textM (L b) most).map fun x => (.string (b.extract x.2 (x.2 + x.1)), b.extract (x.2 + x.1) b.size)) g w e w' := by
  have K := Lib.hid (text_any h most mb hs)
  go_enter Try.func45, Try.ntmps45
  cases hn : textM (L b) most with
  | none =>
    rw [hn] at K
    clear hn
    go_wp2_with fail
    refine K.out.mono ?_
    rintro e z ⟨rfl, r, T⟩
    go_wp2_with fail
    exact ⟨rfl, rfl, r, T⟩
  | some x =>
    rw [hn] at K
    clear hn
    go_wp2_with fail
    refine K.out.mono ?_
    rintro e z ⟨rfl, T⟩
    go_wp2_with fail
    go_ret
    exact ⟨rfl, T⟩
theorem askedT_any {s : ByteArray} {p : Int} {lo : Bool} {g m : Nat} {w : World} (h : Box w g #[.string s, .int .i64 p, .bool lo]) (most : Int) (mb : -9223372036854775808 ≤ most ∧ most ≤ 9223372036854775807) (hm : w.cell? ⟨m, 0, none⟩ = some (.int .i64 most)) (hne : m ≠ g) (hs : s.size ≤ 281474976710656) :
    Calls Try.prog 44 #[.pointer (some ⟨g, 0, none⟩), .func (.func 45) #[] #[.pointer (some ⟨m, 0, none⟩)]] w fun e w' =>
      e = .returned (.string (textB (restB s p lo) (readT s p lo most))) ∧ Tk g (rdc s p ((readT s p lo most).map (fun x => x.2 + x.1))) w w' := by
  have hmf : ∀ (fn : Fn) (first cap : Array Value) (w : World), (Instr.makeFunc fn first cap).run Try.prog w = .ok (.func fn first cap) w := fun _ _ _ _ => rfl
  rw [readT_textM s p lo most]
  have hlt := h.lt
  have T : Tk g #[.string s, .int .i64 p, .bool lo] w (w.alloc (.cells #[.pointer (some ⟨g, 0, none⟩)] 39)) := (Tk.refl h).alloc _
  have Q := Box.new w #[.pointer (some ⟨g, 0, none⟩)] 39
  replace hm := keep_alloc hm (.cells #[.pointer (some ⟨g, 0, none⟩)] 39)
  obtain ⟨q, hq⟩ : ∃ q, w.heap.size = q := ⟨_, rfl⟩
  rw [hq] at Q
  have gq : Hid (q ≠ g) := by unfold Hid; omega
  have wq : Hid (w.heap.size ≤ q) := by unfold Hid; omega
  clear hlt h
  cases ok : okR s.size p lo with
  | false =>
    rw [if_neg (by decide), textB_none]
    have KA : Hid (∀ W, Box W g #[.string s, .int .i64 p, .bool lo] → _) := fun W hW => ahead_no (w := W) hW ok
    clear ok
    go_enter_defers Try.func44, Try.ntmps44
    go_wp2_with fail
    clear hq
    generalize w.alloc (.cells #[.pointer (some ⟨g, 0, none⟩)] 39) = W at *
    have c0 := Q.cell (i := 0) rfl
    go_wp2_with fail
    refine (KA.out _ T.box).mono ?_
    rintro e z ⟨rfl, B1⟩
    replace T := T.next B1
    replace Q := Q.next B1
    clear B1 c0
    go_wp2_with fail
    refine leaves_cons (f := 72) (args := #[.pointer (some ⟨q, 0, none⟩)]) (by simp) (by simp [go_sem]) ?_
    refine (catchT_lost (g := g) (s := s) (p := p) (lo := lo) (Q.cell (i := 0) rfl) T.box).mono ?_
    rintro e u' w'' ⟨rfl, rfl, rfl⟩
    have TT : Tk g #[.string s, .int .i64 p, .bool true] w _ := T.set 2 (.bool true)
    simp [Leaves, settle, results, Try.results44, go_sem]
    exact TT
  | true =>
    obtain ⟨rfl, i, rfl, hi⟩ := okR_yes ok
    rw [if_pos rfl, restB_yes hi]
    have KA : Hid (∀ W, Box W g #[.string s, .int .i64 (i : Int), .bool false] → _) := fun W hW => ahead_yes (w := W) hW hi hs
    obtain ⟨b, hb⟩ : ∃ b, b = s.extract i s.size := ⟨_, rfl⟩
    have bsz : b.size = s.size - i := by rw [hb, ByteArray.size_extract]; omega
    rw [← hb] at KA ⊢
    have KB : Hid (∀ W l, Box W l #[.string b] → W.cell? ⟨m, 0, none⟩ = some (.int .i64 most) → _) := fun W l hW hc => txt1_any (w := W) (g := l) hW most mb hc (by omega)
    clear ok hb
    cases hn : textM (L b) most with
    | none =>
      rw [hn] at KB
      rw [textB_none]
      clear hn bsz hi hs
      go_enter_defers Try.func44, Try.ntmps44
      go_wp2_with fail
      clear hq
      generalize w.alloc (.cells #[.pointer (some ⟨g, 0, none⟩)] 39) = W at *
      have c0 := Q.cell (i := 0) rfl
      go_wp2_with fail
      refine (KA.out _ T.box).mono ?_
      rintro e z ⟨l, rfl, hl, BX, B1⟩
      have lg : Hid (l ≠ g) := by have := T.box.lt; unfold Hid; omega
      have lw : Hid (w.heap.size ≤ l) := by have := T.size; unfold Hid; omega
      have lq : Hid (l ≠ q) := by have := Q.lt; unfold Hid; omega
      replace T := T.next B1
      replace Q := Q.next B1
      replace hm := keep_cell B1 hm
      clear B1 c0 hl
      go_wp2_with fail
      refine (KB.out _ _ BX hm).mono ?_
      rintro e z2 ⟨rfl, r9, T2⟩
      have TG : Box z2 g _ := T.box.tk T2 lg.out.symm
      have T9 : Tk g #[.string s, .int .i64 (i : Int), .bool false] w z2 := T.other T2 lw.out lg.out
      replace Q := Q.tk T2 lq.out.symm
      clear T2 BX hm
      go_wp2_with fail
      refine leaves_cons (f := 72) (args := #[.pointer (some ⟨q, 0, none⟩)]) (by simp) (by simp [go_sem]) ?_
      refine (catchT_lost (g := g) (s := s) (p := (i : Int)) (lo := false) (Q.cell (i := 0) rfl) T9.box).mono ?_
      rintro e u' w'' ⟨rfl, rfl, rfl⟩
      have TT : Tk g #[.string s, .int .i64 (i : Int), .bool true] w _ := T9.set 2 (.bool true)
      simp [Leaves, settle, results, Try.results44, go_sem]
      exact TT
    | some x =>
      obtain ⟨n, k⟩ := x
      have kl := textM_le hn
      rw [L_len] at kl
      rw [hn, Option.map_some] at KB
      rw [textB_some, Option.map_some]
      dsimp only at KB ⊢
      obtain ⟨kk, hkk⟩ : ∃ x, x = k + n := ⟨_, rfl⟩
      rw [← hkk] at KB kl ⊢
      generalize b.extract k kk = t at *
      clear hkk
      obtain ⟨b2, hb2⟩ : ∃ x, x = b.extract kk b.size := ⟨_, rfl⟩
      have b2s : b2.size = b.size - kk := by rw [hb2, ByteArray.size_extract]; omega
      rw [← hb2] at KB
      obtain ⟨j, hj⟩ : ∃ j : Int, j = (i : Int) + (kk : Int) := ⟨_, rfl⟩
      have ew : IntKind.i64.wrap ((s.size : Int) - b2.size) = j := by rw [IntKind.wrap_i64]; omega
      have HJ := Lib.hid hj
      clear hn bsz hi hs hb2 b2s kl hj
      go_enter_defers Try.func44, Try.ntmps44
      go_wp2_with fail
      clear hq
      generalize w.alloc (.cells #[.pointer (some ⟨g, 0, none⟩)] 39) = W at *
      have c0 := Q.cell (i := 0) rfl
      go_wp2_with fail
      refine (KA.out _ T.box).mono ?_
      rintro e z ⟨l, rfl, hl, BX, B1⟩
      have lg : Hid (l ≠ g) := by have := T.box.lt; unfold Hid; omega
      have lw : Hid (w.heap.size ≤ l) := by have := T.size; unfold Hid; omega
      have lq : Hid (l ≠ q) := by have := Q.lt; unfold Hid; omega
      replace T := T.next B1
      replace Q := Q.next B1
      replace hm := keep_cell B1 hm
      clear B1 c0 hl
      go_wp2_with fail
      refine (KB.out _ _ BX hm).mono ?_
      rintro e z2 ⟨rfl, T2⟩
      have T9 : Tk g #[.string s, .int .i64 (i : Int), .bool false] w z2.drew := (T.other T2 lw.out lg.out).drew
      replace Q := (Q.tk T2 lq.out.symm).drew
      have BL := T2.box.drew
      clear T2 BX hm T
      go_wp2_with fail
      refine wp_region_still_tail 14 (by kernel_rfl) (by kernel_rfl) ?_
      simp only [List.take_succ_cons, List.take_zero, List.drop_succ_cons, List.drop_zero]
      change wpStill _ _ z2.drew _ _ _
      have c0 := Q.cell (i := 0) rfl
      obtain ⟨c1, c2, c3⟩ := T9.box.three
      have c4 := BL.cell (i := 0) rfl
      have m1 := T9.box.melt 1
      refine still_of_quiet ?_
      repeat (go_big_quiet_step (fail))
      refine wpQuiet_nil ?_
      change wpList _ _ _ _ _ z2.drew
      generalize z2.drew = Z at *
      go_wp2_with fail
      refine leaves_cons (f := 72) (args := #[.pointer (some ⟨q, 0, none⟩)]) (by simp) (by simp [go_sem]) ?_
      refine (catchT_idle ⟨q, 0, none⟩ _).mono ?_
      rintro e u' w'' ⟨rfl, rfl, rfl⟩
      have TT : Tk g #[.string s, .int .i64 j, .bool false] w _ := T9.set 1 (.int .i64 j)
      simp [Leaves, settle, results, Try.results44, go_sem]
      rw [HJ.out] at TT ⊢
      exact TT
theorem rText_any {s : ByteArray} {p : Int} {lo : Bool} {g : Nat} {w : World} (h : Box w g #[.string s, .int .i64 p, .bool lo]) (most : Int) (mb : -9223372036854775808 ≤ most ∧ most ≤ 9223372036854775807) (hs : s.size ≤ 281474976710656) :
    Calls Try.prog 25 #[.pointer (some ⟨g, 0, none⟩), .int .i64 most] w fun e w' =>
      e = .returned (.string (textB (restB s p lo) (readT s p lo most))) ∧ Tk g (rdc s p ((readT s p lo most).map (fun x => x.2 + x.1))) w w' := by
  have hmf : ∀ (fn : Fn) (first cap : Array Value) (w : World), (Instr.makeFunc fn first cap).run Try.prog w = .ok (.func fn first cap) w := fun _ _ _ _ => rfl
  have hlt := h.lt
  have B0 : Below w.heap.size w (w.alloc (.cells #[.int .i64 most] 3)) := below_al (Below.refl _ _) _
  have Q := Box.new w #[.int .i64 most] 3
  obtain ⟨m, hq⟩ : ∃ q, w.heap.size = q := ⟨_, rfl⟩
  rw [hq] at Q
  have K := Lib.hid (askedT_any (h.next B0) most mb (Q.cell (i := 0) rfl) (show m ≠ g by omega) hs)
  have HB := Lib.hid B0
  clear hlt h Q B0
  go_enter Try.func25, Try.ntmps25
  go_wp2_with fail
  clear hq
  generalize w.alloc (.cells #[.int .i64 most] 3) = W at *
  refine K.out.mono ?_
  rintro e z ⟨rfl, T⟩
  go_wp2_with fail
  go_ret
  exact ⟨rfl, T.pre HB.out⟩
end Go.Proofs.Ytacobmnghdibaaa
namespace Go.Proofs.Ytacobmnghdibaaa
open Go.RowKit
set_option linter.unusedVariables false
set_option linter.unusedSimpArgs false
set_option maxHeartbeats 1000000
set_option maxRecDepth 100000
theorem natM_le {l xs : List _} {k : Nat} (h : natM l = some (xs, k)) : k ≤ l.length := by
  unfold natM at h
  split at h
  · rename_i c
    injection h with h
    injection h with h1 h2
    have := c.2.2.1
    omega
  · cases h
theorem nat1_any {b : ByteArray} {g : Nat} {w : World} (h : Box w g #[.string b]) (hs : b.size ≤ 281474976710656) : Calls Try.prog 48 #[.pointer (some ⟨g, 0, none⟩)] w fun e w' => RetPA (natM (L b)) b g w e w' := by
  have K := Lib.hid (natW_any h hs)
  go_enter Try.func48, Try.ntmps48
  cases hn : natM (L b) with
  | none =>
    rw [hn] at K
    clear hn
    go_wp2_with fail
    refine K.out.mono ?_
    rintro e z ⟨rfl, r, T⟩
    go_wp2_with fail
    exact ⟨rfl, rfl, r, T⟩
  | some x =>
    obtain ⟨xs, k⟩ := x
    rw [hn] at K
    clear hn
    go_wp2_with fail
    refine K.out.mono ?_
    rintro e z ⟨A, n, c, rfl, LA, FA, T⟩
    go_wp2_with fail
    go_ret
    exact ⟨A, n, c, rfl, LA, FA, T⟩
/-- What Nat answers. -/
def RetRA (x : Option (List Nat × Nat)) (s : ByteArray) (p : Int) (g : Nat) (w : World) (e : Ending) (w' : World) : Prop :=
  ∃ A n c, e = .returned (.slice A n c) ∧ Lim w' A n c ((x.map Prod.fst).getD []) ∧ (∀ ad, A = some ad → w.heap.size ≤ ad.block) ∧ Tk g (rdc s p (x.map Prod.snd)) w w'
theorem RetRA.no {s : ByteArray} {p : Int} {g : Nat} {w w' : World} (T : Tk g #[.string s, .int .i64 p, .bool true] w w') : RetRA none s p g w (.returned (.slice none 0 0)) w' :=
  ⟨none, 0, 0, rfl, Lim.none_ _ _ _ (by decide), (fun ad h => by cases h), T⟩
theorem askedA_any {s : ByteArray} {p : Int} {lo : Bool} {g : Nat} {w : World} (h : Box w g #[.string s, .int .i64 p, .bool lo]) (hs : s.size ≤ 281474976710656) :
    Calls Try.prog 47 #[.pointer (some ⟨g, 0, none⟩), .func (.func 48) #[] #[]] w fun e w' => RetRA (readA s p lo) s p g w e w' := by
  have hmf : ∀ (fn : Fn) (first cap : Array Value) (w : World), (Instr.makeFunc fn first cap).run Try.prog w = .ok (.func fn first cap) w := fun _ _ _ _ => rfl
  rw [readA_natM s p lo]
  have hlt := h.lt
  have T : Tk g #[.string s, .int .i64 p, .bool lo] w (w.alloc (.cells #[.pointer (some ⟨g, 0, none⟩)] 39)) := (Tk.refl h).alloc _
  have Q := Box.new w #[.pointer (some ⟨g, 0, none⟩)] 39
  obtain ⟨q, hq⟩ : ∃ q, w.heap.size = q := ⟨_, rfl⟩
  rw [hq] at Q
  have gq : Hid (q ≠ g) := by unfold Hid; omega
  have wq : Hid (w.heap.size ≤ q) := by unfold Hid; omega
  clear hlt h
  cases ok : okR s.size p lo with
  | false =>
    rw [if_neg (by decide)]
    have KA : Hid (∀ W, Box W g #[.string s, .int .i64 p, .bool lo] → _) := fun W hW => ahead_no (w := W) hW ok
    clear ok
    go_enter_defers Try.func47, Try.ntmps47
    go_wp2_with fail
    clear hq
    generalize w.alloc (.cells #[.pointer (some ⟨g, 0, none⟩)] 39) = W at *
    have c0 := Q.cell (i := 0) rfl
    go_wp2_with fail
    refine (KA.out _ T.box).mono ?_
    rintro e z ⟨rfl, B1⟩
    replace T := T.next B1
    replace Q := Q.next B1
    clear B1 c0
    go_wp2_with fail
    refine leaves_cons (f := 74) (args := #[.pointer (some ⟨q, 0, none⟩)]) (by simp) (by simp [go_sem]) ?_
    refine (catchA_lost (g := g) (s := s) (p := p) (lo := lo) (Q.cell (i := 0) rfl) T.box).mono ?_
    rintro e u' w'' ⟨rfl, rfl, rfl⟩
    have TT : Tk g #[.string s, .int .i64 p, .bool true] w _ := T.set 2 (.bool true)
    simp [Leaves, settle, results, Try.results47, go_sem]
    exact RetRA.no TT
  | true =>
    obtain ⟨rfl, i, rfl, hi⟩ := okR_yes ok
    rw [if_pos rfl, restB_yes hi]
    have KA : Hid (∀ W, Box W g #[.string s, .int .i64 (i : Int), .bool false] → _) := fun W hW => ahead_yes (w := W) hW hi hs
    obtain ⟨b, hb⟩ : ∃ b, b = s.extract i s.size := ⟨_, rfl⟩
    have bsz : b.size = s.size - i := by rw [hb, ByteArray.size_extract]; omega
    rw [← hb] at KA ⊢
    have KB : Hid (∀ W l, Box W l #[.string b] → _) := fun W l hW => nat1_any (w := W) (g := l) hW (by omega)
    clear ok hb
    cases hn : natM (L b) with
    | none =>
      rw [hn] at KB
      clear hn bsz hi hs
      go_enter_defers Try.func47, Try.ntmps47
      go_wp2_with fail
      clear hq
      generalize w.alloc (.cells #[.pointer (some ⟨g, 0, none⟩)] 39) = W at *
      have c0 := Q.cell (i := 0) rfl
      go_wp2_with fail
      refine (KA.out _ T.box).mono ?_
      rintro e z ⟨l, rfl, hl, BX, B1⟩
      have lg : Hid (l ≠ g) := by have := T.box.lt; unfold Hid; omega
      have lw : Hid (w.heap.size ≤ l) := by have := T.size; unfold Hid; omega
      have lq : Hid (l ≠ q) := by have := Q.lt; unfold Hid; omega
      replace T := T.next B1
      replace Q := Q.next B1
      clear B1 c0 hl
      go_wp2_with fail
      refine (KB.out _ _ BX).mono ?_
      rintro e z2 ⟨rfl, r9, T2⟩
      have T9 : Tk g #[.string s, .int .i64 (i : Int), .bool false] w z2 := T.other T2 lw.out lg.out
      replace Q := Q.tk T2 lq.out.symm
      clear T2 BX
      go_wp2_with fail
      refine leaves_cons (f := 74) (args := #[.pointer (some ⟨q, 0, none⟩)]) (by simp) (by simp [go_sem]) ?_
      refine (catchA_lost (g := g) (s := s) (p := (i : Int)) (lo := false) (Q.cell (i := 0) rfl) T9.box).mono ?_
      rintro e u' w'' ⟨rfl, rfl, rfl⟩
      have TT : Tk g #[.string s, .int .i64 (i : Int), .bool true] w _ := T9.set 2 (.bool true)
      simp [Leaves, settle, results, Try.results47, go_sem]
      exact RetRA.no TT
    | some x =>
      obtain ⟨xs, k⟩ := x
      have kl := natM_le hn
      rw [L_len] at kl
      rw [hn] at KB
      obtain ⟨b2, hb2⟩ : ∃ x, x = b.extract k b.size := ⟨_, rfl⟩
      have b2s : b2.size = b.size - k := by rw [hb2, ByteArray.size_extract]; omega
      have HB2 := Lib.hid hb2
      obtain ⟨j, hj⟩ : ∃ j : Int, j = (i : Int) + (k : Int) := ⟨_, rfl⟩
      have ew : IntKind.i64.wrap ((s.size : Int) - b2.size) = j := by rw [IntKind.wrap_i64]; omega
      have HJ := Lib.hid hj
      clear hn bsz hi hs hb2 b2s kl hj
      go_enter_defers Try.func47, Try.ntmps47
      go_wp2_with fail
      clear hq
      generalize w.alloc (.cells #[.pointer (some ⟨g, 0, none⟩)] 39) = W at *
      have c0 := Q.cell (i := 0) rfl
      go_wp2_with fail
      refine (KA.out _ T.box).mono ?_
      rintro e z ⟨l, rfl, hl, BX, B1⟩
      have lg : Hid (l ≠ g) := by have := T.box.lt; unfold Hid; omega
      have lw : Hid (w.heap.size ≤ l) := by have := T.size; unfold Hid; omega
      have lq : Hid (l ≠ q) := by have := Q.lt; unfold Hid; omega
      replace T := T.next B1
      replace Q := Q.next B1
      have zg : Hid (g < z.heap.size ∧ w.heap.size ≤ z.heap.size) := ⟨T.box.lt, T.size⟩
      clear B1 c0 hl
      go_wp2_with fail
      refine (KB.out _ _ BX).mono ?_
      rintro e z2 ⟨A, n, c, rfl, LA, FA, T2⟩
      rw [← HB2.out] at T2
      have FA2 : Hid (∀ ad, A = some ad → w.heap.size ≤ ad.block ∧ ad.block ≠ g) := fun ad ha => by have := FA ad ha; have := zg.out; omega
      have T9 : Tk g #[.string s, .int .i64 (i : Int), .bool false] w z2.drew := (T.other T2 lw.out lg.out).drew
      replace Q := (Q.tk T2 lq.out.symm).drew
      have BL := T2.box.drew
      have LAH := Lib.hid LA.drew
      clear T2 BX T LA FA
      go_wp2_with fail
      refine wp_region_still_tail 14 (by kernel_rfl) (by kernel_rfl) ?_
      simp only [List.take_succ_cons, List.take_zero, List.drop_succ_cons, List.drop_zero]
      change wpStill _ _ z2.drew _ _ _
      have c0 := Q.cell (i := 0) rfl
      obtain ⟨c1, c2, c3⟩ := T9.box.three
      have c4 := BL.cell (i := 0) rfl
      have m1 := T9.box.melt 1
      refine still_of_quiet ?_
      repeat (go_big_quiet_step (fail))
      refine wpQuiet_nil ?_
      change wpList _ _ _ _ _ z2.drew
      generalize z2.drew = Z at *
      go_wp2_with fail
      refine leaves_cons (f := 74) (args := #[.pointer (some ⟨q, 0, none⟩)]) (by simp) (by simp [go_sem]) ?_
      refine (catchA_idle ⟨q, 0, none⟩ _).mono ?_
      rintro e u' w'' ⟨rfl, rfl, rfl⟩
      have TT : Tk g #[.string s, .int .i64 j, .bool false] w _ := T9.set 1 (.int .i64 j)
      have LT := LAH.out.put (p := ⟨g, 1, none⟩) (fun ad ha => (FA2.out ad ha).2) (.int .i64 j)
      simp [Leaves, settle, results, Try.results47, go_sem]
      rw [HJ.out] at TT LT ⊢
      exact ⟨A, n, c, rfl, LT, fun ad ha => (FA2.out ad ha).1, TT⟩
theorem rNat_any {s : ByteArray} {p : Int} {lo : Bool} {g : Nat} {w : World} (h : Box w g #[.string s, .int .i64 p, .bool lo]) (hs : s.size ≤ 281474976710656) :
    Calls Try.prog 26 #[.pointer (some ⟨g, 0, none⟩)] w fun e w' => RetRA (readA s p lo) s p g w e w' := by
  have K := Lib.hid (askedA_any h hs)
  clear h
  go_enter Try.func26, Try.ntmps26
  go_wp2_with fail
  refine K.out.mono ?_
  rintro e z ⟨A, n, c, rfl, LA, FA, T⟩
  go_wp2_with fail
  go_ret
  exact ⟨A, n, c, rfl, LA, FA, T⟩
end Go.Proofs.Ytacobmnghdibaaa
