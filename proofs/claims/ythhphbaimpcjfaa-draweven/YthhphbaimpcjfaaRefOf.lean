/- The document's answers: the walks of Of, Text. -/
import Derived.Test.YthhphbaimpcjfaaWalkY
namespace Go.Proofs.Ythhphbaimpcjfaa
open Go.RowKit
set_option linter.unusedVariables false
set_option linter.unusedSimpArgs false

theorem four_halves (n : Nat) : hval [n % 65536, n / 65536 % 65536, n / 4294967296 % 65536, n / 281474976710656] = n := by
  simp only [hval_cons, hval_nil]
  rw [H16_eq]
  omega
set_option maxRecDepth 100000 in
theorem refOf_any (n : Nat) (hn : n < 18446744073709551616) (w : World) : Calls Try.prog 12 #[.int .u64 (n : Int)] w fun e w' => RetN n w e w' := by
  have LD : Ld [n % 65536, n / 65536 % 65536, n / 4294967296 % 65536, n / 281474976710656] := .cons (by omega) (.cons (by omega) (.cons (by omega) (.cons (by omega) .nil)))
  have HR : Hrow (w.alloc (.cells ([n % 65536, n / 65536 % 65536, n / 4294967296 % 65536, n / 281474976710656].map hv).toArray 23)) w.heap.size [n % 65536, n / 65536 % 65536, n / 4294967296 % 65536, n / 281474976710656] [] := ⟨by rw [List.append_nil]; exact heap_alloc_new w _⟩
  have K := whole_at (c := 4) (n := 2) (T := 4) rfl (HR.hl rfl) LD (by omega)
  rw [four_halves] at K
  have K := Lib.hid K
  have BL := Lib.hid ((Below.refl w.heap.size w).alloc (Nat.le_refl _) (.cells ([n % 65536, n / 65536 % 65536, n / 4294967296 % 65536, n / 281474976710656].map hv).toArray 23))
  clear LD HR
  go_enter Try.func12, Try.ntmps12
  go_wp2_with fail
  refine K.out.mono ?_
  rintro e w1 ⟨A1, n1, c1, rfl, L1, B1⟩
  go_wp2_with fail
  go_ret
  exact ⟨_, _, _, rfl, L1, below_step BL.out B1⟩
end Go.Proofs.Ythhphbaimpcjfaa
