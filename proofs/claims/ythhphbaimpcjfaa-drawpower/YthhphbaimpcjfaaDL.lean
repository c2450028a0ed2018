/- The walk of BelowNat: what is refused. -/
import Derived.Test.YthhphbaimpcjfaaDK
import Derived.Test.YthhphbaimpcjfaaWalkZ
namespace Go.Proofs.Ythhphbaimpcjfaa
open Go.RowKit
set_option linter.unusedVariables false
set_option linter.unusedSimpArgs false
set_option maxHeartbeats 4000000
set_option maxRecDepth 100000
/-- What a draw of a natural answers. -/
def RetB (A : Option Addr) (n c : Nat) (x : Nat × Int × Int) (w : World) (e : Ending) (w' : World) : Prop :=
  ∃ A' n' c', e = .returned (.tuple #[.slice A' n' c', wds A n c x.2.1, .int .i64 x.2.2]) ∧ Lim w' A' n' c' (limbs x.1) ∧ Below w.heap.size w w'
theorem retB_none {A : Option Addr} {n c : Nat} {q er : Int} {w w' : World} (h : Below w.heap.size w w') : RetB A n c (0, q, er) w (.returned (.tuple #[.slice none 0 0, wds A n c q, .int .i64 er])) w' := ⟨none, 0, 0, rfl, lim_zero _ _ _ (by decide), h⟩
theorem retB_some {A A' : Option Addr} {n c n' c' v : Nat} {q er : Int} {x : Nat × Int × Int} {w w' : World} (e : x = (v, q, er)) (h : Below w.heap.size w w') (l : Lim w' A' n' c' (limbs v)) : RetB A n c x w (.returned (.tuple #[.slice A' n' c', wds A n c q, .int .i64 er])) w' := by subst e; exact ⟨A', n', c', rfl, l, h⟩
theorem belowNat_arg {A Ab : Option Addr} {n c nb cb : Nat} {p : Int} {xs : List Nat} {w : World} (hn : n ≤ 9223372036854775807) (HB : Lim w Ab nb cb xs) (h : ¬ Nt xs) : Calls Try.prog 14 #[wds A n c p, .slice Ab nb cb] w fun e w' => RetB A n c (0, p, 1) w e w' := by
  have KN : Hid (∀ W : World, Below w.heap.size w W → Calls Try.prog 26 #[.slice Ab nb cb] W fun e w' => e = .returned (.bool (ntB xs)) ∧ W = w') := fun W hb => right_any (HB.next hb)
  have EN := Lib.hid (ntB_no h)
  clear HB h
  obtain ⟨g, hg⟩ : ∃ g, w.heap.size = g := ⟨_, rfl⟩
  have M := Two.new w #[.slice A n c, .int .i64 p] #[.slice none 0 0, .int .i64 0] 28 28
  rw [hg] at M
  go_enter Try.func14, Try.ntmps14
  go_wp2_with fail
  clear hg
  generalize (w.alloc (Obj.cells #[Value.slice A n c, Value.int IntKind.i64 p] 28)).alloc (Obj.cells #[Value.slice none 0 0, Value.int IntKind.i64 0] 28) = W at *
  generalize g + 1 = r at *
  refine (KN.out W M.bl).mono ?_
  rw [EN.out]
  rintro e W1 ⟨rfl, rfl⟩
  obtain ⟨c0, c1⟩ := M.bg.two
  obtain ⟨k0, k1⟩ := M.br.two
  have m0 := M.br.melt 0; have m1 := M.br.melt 1
  go_wp2_with fail
  go_region
  all_goals go_wp2_with fail
  clear c0 c1 k0 k1 m0 m1
  replace M := (M.put2 (.slice A n c) (.int .i64 p)).drew
  generalize ((W.setCell ⟨r, 0, none⟩ (.slice A n c)).setCell ⟨r, 1, none⟩ (.int .i64 p)).drew = W9 at *
  obtain ⟨z0, z1⟩ := M.br.two
  refine bodyPost_ret (v := .tuple #[.slice none 0 0, .agg #[.slice A n c, (.int .i64 p)], .int .i64 1]) (by simp [results, Try.results14, go_sem, z0, z1]) rfl ?_
  exact retB_none M.bl
theorem belowNat_zero {A Ab : Option Addr} {n c nb cb : Nat} {p : Int} {xs : List Nat} {w : World} (hn : n ≤ 9223372036854775807) (HB : Lim w Ab nb cb xs) (h : nb = 0) : Calls Try.prog 14 #[wds A n c p, .slice Ab nb cb] w fun e w' => RetB A n c (0, p, 7) w e w' := by
  subst h
  have hx : xs = [] := List.eq_nil_of_length_eq_zero HB.len
  subst hx
  have KN : Hid (∀ W : World, Below w.heap.size w W → Calls Try.prog 26 #[.slice Ab 0 cb] W fun e w' => e = .returned (.bool (ntB [])) ∧ W = w') := fun W hb => right_any (HB.next hb)
  have EN := Lib.hid (ntB_yes (xs := []) ⟨by simp, fun h => absurd rfl h⟩)
  clear HB
  obtain ⟨g, hg⟩ : ∃ g, w.heap.size = g := ⟨_, rfl⟩
  have M := Two.new w #[.slice A n c, .int .i64 p] #[.slice none 0 0, .int .i64 0] 28 28
  rw [hg] at M
  go_enter Try.func14, Try.ntmps14
  go_wp2_with fail
  clear hg
  generalize (w.alloc (Obj.cells #[Value.slice A n c, Value.int IntKind.i64 p] 28)).alloc (Obj.cells #[Value.slice none 0 0, Value.int IntKind.i64 0] 28) = W at *
  generalize g + 1 = r at *
  refine (KN.out W M.bl).mono ?_
  rw [EN.out]
  rintro e W1 ⟨rfl, rfl⟩
  obtain ⟨c0, c1⟩ := M.bg.two
  obtain ⟨k0, k1⟩ := M.br.two
  have m0 := M.br.melt 0; have m1 := M.br.melt 1
  go_wp2_with fail
  go_region
  all_goals go_wp2_with fail
  clear c0 c1 k0 k1 m0 m1
  replace M := (M.put2 (.slice A n c) (.int .i64 p)).drew
  generalize ((W.setCell ⟨r, 0, none⟩ (.slice A n c)).setCell ⟨r, 1, none⟩ (.int .i64 p)).drew = W9 at *
  obtain ⟨z0, z1⟩ := M.br.two
  refine bodyPost_ret (v := .tuple #[.slice none 0 0, .agg #[.slice A n c, (.int .i64 p)], .int .i64 7]) (by simp [results, Try.results14, go_sem, z0, z1]) rfl ?_
  exact retB_none M.bl
theorem belowNat_at {A Ab : Option Addr} {n c nb cb : Nat} {p : Int} {xs : List Nat} {w : World} (hn : n ≤ 9223372036854775807) (HB : Lim w Ab nb cb xs) (h : Nt xs) (hnb : nb ≠ 0) (hp : okB p n = false) : Calls Try.prog 14 #[wds A n c p, .slice Ab nb cb] w fun e w' => RetB A n c (0, p, 1) w e w' := by
  have KN : Hid (∀ W : World, Below w.heap.size w W → Calls Try.prog 26 #[.slice Ab nb cb] W fun e w' => e = .returned (.bool (ntB xs)) ∧ W = w') := fun W hb => right_any (HB.next hb)
  have EN := Lib.hid (ntB_yes h)
  have KR := Lib.hid (fun W => dright_any A n c p hn W)
  have E := Lib.hid hp
  have hz : ((nb : Int) == 0) = false := by simpa using hnb
  clear HB h hp hnb
  obtain ⟨g, hg⟩ : ∃ g, w.heap.size = g := ⟨_, rfl⟩
  have M := Two.new w #[.slice A n c, .int .i64 p] #[.slice none 0 0, .int .i64 0] 28 28
  rw [hg] at M
  go_enter Try.func14, Try.ntmps14
  go_wp2_with fail
  clear hg
  generalize (w.alloc (Obj.cells #[Value.slice A n c, Value.int IntKind.i64 p] 28)).alloc (Obj.cells #[Value.slice none 0 0, Value.int IntKind.i64 0] 28) = W at *
  generalize g + 1 = r at *
  refine (KN.out W M.bl).mono ?_
  rw [EN.out]
  rintro e W1 ⟨rfl, rfl⟩
  obtain ⟨c0, c1⟩ := M.bg.two
  obtain ⟨k0, k1⟩ := M.br.two
  have m0 := M.br.melt 0; have m1 := M.br.melt 1
  go_wp2_with fail
  clear c0 c1 k0 k1 m0 m1
  refine (KR.out W).mono ?_
  rw [E.out]
  rintro e W1 ⟨rfl, B1⟩
  replace M := M.next B1
  have BB := Lib.hid B1
  clear B1
  obtain ⟨c0, c1⟩ := M.bg.two
  obtain ⟨k0, k1⟩ := M.br.two
  have m0 := M.br.melt 0; have m1 := M.br.melt 1
  go_wp2_with fail
  go_region
  all_goals go_wp2_with fail
  clear c0 c1 k0 k1 m0 m1
  replace M := (M.put2 (.slice A n c) (.int .i64 p)).drew
  generalize ((W1.setCell ⟨r, 0, none⟩ (.slice A n c)).setCell ⟨r, 1, none⟩ (.int .i64 p)).drew = W9 at *
  obtain ⟨z0, z1⟩ := M.br.two
  refine bodyPost_ret (v := .tuple #[.slice none 0 0, .agg #[.slice A n c, (.int .i64 p)], .int .i64 1]) (by simp [results, Try.results14, go_sem, z0, z1]) rfl ?_
  exact retB_none M.bl
end Go.Proofs.Ythhphbaimpcjfaa
