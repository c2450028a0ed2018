/- The walk of Below. -/
import Derived.Test.YthhphbaimpcjfaaDM
namespace Go.Proofs.Ythhphbaimpcjfaa
open Go.RowKit
set_option linter.unusedVariables false
set_option linter.unusedSimpArgs false
set_option maxHeartbeats 2000000
set_option maxRecDepth 100000
/-- What a draw answers: a number, the words, an error. -/
def RetD (A : Option Addr) (n c : Nat) (x : Nat × Int × Int) (w : World) (e : Ending) (w' : World) : Prop := e = .returned (.tuple #[wd x.1, wds A n c x.2.1, .int .i64 x.2.2]) ∧ Below w.heap.size w w'
theorem below_zero (A : Option Addr) (n c : Nat) (p : Int) (w : World) : Calls Try.prog 10 #[wds A n c p, .int .u64 0] w fun e w' => RetD A n c (0, p, 7) w e w' := by
  obtain ⟨g, hg⟩ : ∃ g, w.heap.size = g := ⟨_, rfl⟩
  have M := Two.new w #[.slice A n c, .int .i64 p] #[.slice none 0 0, .int .i64 0] 28 28
  rw [hg] at M
  go_enter Try.func10, Try.ntmps10
  go_wp2_with fail
  clear hg
  generalize (w.alloc (Obj.cells #[Value.slice A n c, Value.int IntKind.i64 p] 28)).alloc (Obj.cells #[Value.slice none 0 0, Value.int IntKind.i64 0] 28) = W at *
  generalize g + 1 = r at *
  obtain ⟨c0, c1⟩ := M.bg.two
  obtain ⟨k0, k1⟩ := M.br.two
  have m0 := M.br.melt 0; have m1 := M.br.melt 1
  go_region
  all_goals go_wp2_with fail
  clear c0 c1 k0 k1 m0 m1
  replace M := (M.put2 (.slice A n c) (.int .i64 p)).drew
  generalize ((W.setCell ⟨r, 0, none⟩ (.slice A n c)).setCell ⟨r, 1, none⟩ (.int .i64 p)).drew = W9 at *
  obtain ⟨z0, z1⟩ := M.br.two
  exact bodyPost_ret (v := .tuple #[.int .u64 0, .agg #[.slice A n c, (.int .i64 p)], .int .i64 7]) (by simp [results, Try.results10, go_sem, z0, z1]) rfl ⟨rfl, M.bl⟩
theorem below_arg (A : Option Addr) (n c d : Nat) (p : Int) (hn : n ≤ 9223372036854775807) (hd : d ≠ 0) (h : okB p n = false) (w : World) : Calls Try.prog 10 #[wds A n c p, wd d] w fun e w' => RetD A n c (0, p, 1) w e w' := by
  have KR := Lib.hid (fun W => dright_any A n c p hn W)
  have E := Lib.hid h
  have h0 : ((d : Int) == 0) = false := by simpa using hd
  clear h hd
  obtain ⟨g, hg⟩ : ∃ g, w.heap.size = g := ⟨_, rfl⟩
  have M := Two.new w #[.slice A n c, .int .i64 p] #[.slice none 0 0, .int .i64 0] 28 28
  rw [hg] at M
  go_enter Try.func10, Try.ntmps10
  go_wp2_with fail
  clear hg
  generalize (w.alloc (Obj.cells #[Value.slice A n c, Value.int IntKind.i64 p] 28)).alloc (Obj.cells #[Value.slice none 0 0, Value.int IntKind.i64 0] 28) = W at *
  generalize g + 1 = r at *
  obtain ⟨c0, c1⟩ := M.bg.two
  obtain ⟨k0, k1⟩ := M.br.two
  have m0 := M.br.melt 0; have m1 := M.br.melt 1
  go_wp2_with fail
  clear c0 c1 k0 k1 m0 m1
  refine (KR.out W).mono ?_
  rw [E.out]
  rintro e W1 ⟨rfl, B1⟩
  replace M := M.next B1
  clear B1
  obtain ⟨c0, c1⟩ := M.bg.two
  obtain ⟨k0, k1⟩ := M.br.two
  have m0 := M.br.melt 0; have m1 := M.br.melt 1
  go_wp2_with fail
  go_region
  all_goals go_wp2_with fail
  clear c0 c1 k0 k1 m0 m1
  replace M := (M.put2 (.slice A n c) (.int .i64 p)).drew
  generalize ((W1.setCell ⟨r, 0, none⟩ (.slice A n c)).setCell ⟨r, 1, none⟩ (.int .i64 p)).drew = W9 at *
  obtain ⟨z0, z1⟩ := M.br.two
  exact bodyPost_ret (v := .tuple #[.int .u64 0, .agg #[.slice A n c, (.int .i64 p)], .int .i64 1]) (by simp [results, Try.results10, go_sem, z0, z1]) rfl ⟨rfl, M.bl⟩
theorem below_one (A : Option Addr) (n c : Nat) (p : Int) (hn : n ≤ 9223372036854775807) (h : okB p n = true) (w : World) : Calls Try.prog 10 #[wds A n c p, .int .u64 1] w fun e w' => RetD A n c (0, p, 0) w e w' := by
  have KR := Lib.hid (fun W => dright_any A n c p hn W)
  have E := Lib.hid h
  clear h
  obtain ⟨g, hg⟩ : ∃ g, w.heap.size = g := ⟨_, rfl⟩
  have M := Two.new w #[.slice A n c, .int .i64 p] #[.slice none 0 0, .int .i64 0] 28 28
  rw [hg] at M
  go_enter Try.func10, Try.ntmps10
  go_wp2_with fail
  clear hg
  generalize (w.alloc (Obj.cells #[Value.slice A n c, Value.int IntKind.i64 p] 28)).alloc (Obj.cells #[Value.slice none 0 0, Value.int IntKind.i64 0] 28) = W at *
  generalize g + 1 = r at *
  obtain ⟨c0, c1⟩ := M.bg.two
  obtain ⟨k0, k1⟩ := M.br.two
  have m0 := M.br.melt 0; have m1 := M.br.melt 1
  go_wp2_with fail
  clear c0 c1 k0 k1 m0 m1
  refine (KR.out W).mono ?_
  rw [E.out]
  rintro e W1 ⟨rfl, B1⟩
  replace M := M.next B1
  clear B1
  obtain ⟨c0, c1⟩ := M.bg.two
  obtain ⟨k0, k1⟩ := M.br.two
  have m0 := M.br.melt 0; have m1 := M.br.melt 1
  go_wp2_with fail
  go_region
  all_goals go_wp2_with fail
  clear c0 c1 k0 k1 m0 m1
  replace M := (M.put2 (.slice A n c) (.int .i64 p)).drew
  generalize ((W1.setCell ⟨r, 0, none⟩ (.slice A n c)).setCell ⟨r, 1, none⟩ (.int .i64 p)).drew = W9 at *
  obtain ⟨z0, z1⟩ := M.br.two
  exact bodyPost_ret (v := .tuple #[.int .u64 0, .agg #[.slice A n c, (.int .i64 p)], .int .i64 0]) (by simp [results, Try.results10, go_sem, z0, z1]) rfl ⟨rfl, M.bl⟩
end Go.Proofs.Ythhphbaimpcjfaa
