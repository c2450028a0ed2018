/- The document's answers: the walk of Below: what is refused. -/
import Derived.Test.YthhphbaimpcjfaaDR
namespace Go.Proofs.Ythhphbaimpcjfaa
open Go.RowKit
set_option linter.unusedVariables false
set_option linter.unusedSimpArgs false
set_option maxHeartbeats 4000000
set_option maxRecDepth 100000
theorem refBelow_arg {A Ab : Option Addr} {n c nb cb : Nat} {p : Int} {xs : List Nat} {w : World} (hn : n ≤ 9223372036854775807) (HB : Lim w Ab nb cb xs) (h : ¬ Nt xs) : Calls Try.prog 11 #[wds A n c p, .slice Ab nb cb] w fun e w' => RetB A n c (0, p, 1) w e w' := by
  have KN : Hid (∀ W : World, Below w.heap.size w W → Calls Try.prog 22 #[.slice Ab nb cb] W fun e w' => e = .returned (.bool (ntB xs)) ∧ W = w') := fun W hb => refRight_any (HB.next hb)
  have EN := Lib.hid (ntB_no h)
  clear HB h
  obtain ⟨g, hg⟩ : ∃ g, w.heap.size = g := ⟨_, rfl⟩
  have M := Two.new w #[.slice A n c, .int .i64 p] #[.slice none 0 0, .int .i64 0] 29 29
  rw [hg] at M
  go_enter Try.func11, Try.ntmps11
  go_wp2_with fail
  clear hg
  generalize (w.alloc (Obj.cells #[Value.slice A n c, Value.int IntKind.i64 p] 29)).alloc (Obj.cells #[Value.slice none 0 0, Value.int IntKind.i64 0] 29) = W at *
  generalize g + 1 = r at *
  refine (KN.out W M.bl).mono ?_
  rw [EN.out]
  rintro e W1 ⟨rfl, rfl⟩
  obtain ⟨c0, c1⟩ := M.bg.two
  obtain ⟨k0, k1⟩ := M.br.two
  have m0 := M.br.melt 0; have m1 := M.br.melt 1
  go_wp2_with fail
  go_region
  all_goals go_wp2_with fail
  clear c0 c1 k0 k1 m0 m1
  replace M := (M.put2 (.slice A n c) (.int .i64 p)).drew
  generalize ((W.setCell ⟨r, 0, none⟩ (.slice A n c)).setCell ⟨r, 1, none⟩ (.int .i64 p)).drew = W9 at *
  obtain ⟨z0, z1⟩ := M.br.two
  refine bodyPost_ret (v := .tuple #[.slice none 0 0, .agg #[.slice A n c, (.int .i64 p)], .int .i64 1]) (by simp [results, Try.results11, go_sem, z0, z1]) rfl ?_
  exact retB_none M.bl
theorem refBelow_zero {A Ab : Option Addr} {n c nb cb : Nat} {p : Int} {xs : List Nat} {w : World} (hn : n ≤ 9223372036854775807) (HB : Lim w Ab nb cb xs) (h : nb = 0) : Calls Try.prog 11 #[wds A n c p, .slice Ab nb cb] w fun e w' => RetB A n c (0, p, 7) w e w' := by
  subst h
  have hx : xs = [] := List.eq_nil_of_length_eq_zero HB.len
  subst hx
  have KN : Hid (∀ W : World, Below w.heap.size w W → Calls Try.prog 22 #[.slice Ab 0 cb] W fun e w' => e = .returned (.bool (ntB [])) ∧ W = w') := fun W hb => refRight_any (HB.next hb)
  have EN := Lib.hid (ntB_yes (xs := []) ⟨by simp, fun h => absurd rfl h⟩)
  clear HB
  obtain ⟨g, hg⟩ : ∃ g, w.heap.size = g := ⟨_, rfl⟩
  have M := Two.new w #[.slice A n c, .int .i64 p] #[.slice none 0 0, .int .i64 0] 29 29
  rw [hg] at M
  go_enter Try.func11, Try.ntmps11
  go_wp2_with fail
  clear hg
  generalize (w.alloc (Obj.cells #[Value.slice A n c, Value.int IntKind.i64 p] 29)).alloc (Obj.cells #[Value.slice none 0 0, Value.int IntKind.i64 0] 29) = W at *
  generalize g + 1 = r at *
  refine (KN.out W M.bl).mono ?_
  rw [EN.out]
  rintro e W1 ⟨rfl, rfl⟩
  obtain ⟨c0, c1⟩ := M.bg.two
  obtain ⟨k0, k1⟩ := M.br.two
  have m0 := M.br.melt 0; have m1 := M.br.melt 1
  go_wp2_with fail
  go_region
  all_goals go_wp2_with fail
  clear c0 c1 k0 k1 m0 m1
  replace M := (M.put2 (.slice A n c) (.int .i64 p)).drew
  generalize ((W.setCell ⟨r, 0, none⟩ (.slice A n c)).setCell ⟨r, 1, none⟩ (.int .i64 p)).drew = W9 at *
  obtain ⟨z0, z1⟩ := M.br.two
  refine bodyPost_ret (v := .tuple #[.slice none 0 0, .agg #[.slice A n c, (.int .i64 p)], .int .i64 7]) (by simp [results, Try.results11, go_sem, z0, z1]) rfl ?_
  exact retB_none M.bl
theorem refBelow_low {A Ab : Option Addr} {n c nb cb : Nat} {p : Int} {xs : List Nat} {w : World} (hn : n ≤ 9223372036854775807) (HB : Lim w Ab nb cb xs) (h : Nt xs) (hnb : nb ≠ 0) (hp : p < 0) : Calls Try.prog 11 #[wds A n c p, .slice Ab nb cb] w fun e w' => RetB A n c (0, p, 1) w e w' := by
  have KN : Hid (∀ W : World, Below w.heap.size w W → Calls Try.prog 22 #[.slice Ab nb cb] W fun e w' => e = .returned (.bool (ntB xs)) ∧ W = w') := fun W hb => refRight_any (HB.next hb)
  have EN := Lib.hid (ntB_yes h)
  have hz : ((nb : Int) == 0) = false := by simpa using hnb
  have h1 : p < 0 := hp
  clear HB h hp hnb
  obtain ⟨g, hg⟩ : ∃ g, w.heap.size = g := ⟨_, rfl⟩
  have M := Two.new w #[.slice A n c, .int .i64 p] #[.slice none 0 0, .int .i64 0] 29 29
  rw [hg] at M
  go_enter Try.func11, Try.ntmps11
  go_wp2_with fail
  clear hg
  generalize (w.alloc (Obj.cells #[Value.slice A n c, Value.int IntKind.i64 p] 29)).alloc (Obj.cells #[Value.slice none 0 0, Value.int IntKind.i64 0] 29) = W at *
  generalize g + 1 = r at *
  refine (KN.out W M.bl).mono ?_
  rw [EN.out]
  rintro e W1 ⟨rfl, rfl⟩
  obtain ⟨c0, c1⟩ := M.bg.two
  obtain ⟨k0, k1⟩ := M.br.two
  have m0 := M.br.melt 0; have m1 := M.br.melt 1
  go_wp2_with fail
  go_region
  all_goals go_wp2_with fail
  clear c0 c1 k0 k1 m0 m1
  replace M := (M.put2 (.slice A n c) (.int .i64 p)).drew
  generalize ((W.setCell ⟨r, 0, none⟩ (.slice A n c)).setCell ⟨r, 1, none⟩ (.int .i64 p)).drew = W9 at *
  obtain ⟨z0, z1⟩ := M.br.two
  refine bodyPost_ret (v := .tuple #[.slice none 0 0, .agg #[.slice A n c, (.int .i64 p)], .int .i64 1]) (by simp [results, Try.results11, go_sem, z0, z1]) rfl ?_
  exact retB_none M.bl
theorem refBelow_high {A Ab : Option Addr} {n c nb cb : Nat} {p : Int} {xs : List Nat} {w : World} (hn : n ≤ 9223372036854775807) (HB : Lim w Ab nb cb xs) (h : Nt xs) (hnb : nb ≠ 0) (hp : (n : Int) < p) : Calls Try.prog 11 #[wds A n c p, .slice Ab nb cb] w fun e w' => RetB A n c (0, p, 1) w e w' := by
  have KN : Hid (∀ W : World, Below w.heap.size w W → Calls Try.prog 22 #[.slice Ab nb cb] W fun e w' => e = .returned (.bool (ntB xs)) ∧ W = w') := fun W hb => refRight_any (HB.next hb)
  have EN := Lib.hid (ntB_yes h)
  have hz : ((nb : Int) == 0) = false := by simpa using hnb
  have h1 : ¬ p < 0 := by omega
  have h2 : (n : Int) < p := hp
  clear HB h hp hnb
  obtain ⟨g, hg⟩ : ∃ g, w.heap.size = g := ⟨_, rfl⟩
  have M := Two.new w #[.slice A n c, .int .i64 p] #[.slice none 0 0, .int .i64 0] 29 29
  rw [hg] at M
  go_enter Try.func11, Try.ntmps11
  go_wp2_with fail
  clear hg
  generalize (w.alloc (Obj.cells #[Value.slice A n c, Value.int IntKind.i64 p] 29)).alloc (Obj.cells #[Value.slice none 0 0, Value.int IntKind.i64 0] 29) = W at *
  generalize g + 1 = r at *
  refine (KN.out W M.bl).mono ?_
  rw [EN.out]
  rintro e W1 ⟨rfl, rfl⟩
  obtain ⟨c0, c1⟩ := M.bg.two
  obtain ⟨k0, k1⟩ := M.br.two
  have m0 := M.br.melt 0; have m1 := M.br.melt 1
  go_wp2_with fail
  go_region
  all_goals go_wp2_with fail
  clear c0 c1 k0 k1 m0 m1
  replace M := (M.put2 (.slice A n c) (.int .i64 p)).drew
  generalize ((W.setCell ⟨r, 0, none⟩ (.slice A n c)).setCell ⟨r, 1, none⟩ (.int .i64 p)).drew = W9 at *
  obtain ⟨z0, z1⟩ := M.br.two
  refine bodyPost_ret (v := .tuple #[.slice none 0 0, .agg #[.slice A n c, (.int .i64 p)], .int .i64 1]) (by simp [results, Try.results11, go_sem, z0, z1]) rfl ?_
  exact retB_none M.bl
end Go.Proofs.Ythhphbaimpcjfaa
