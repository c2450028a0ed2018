/- What the laws of rat share: arguments that are fractions, naturals, words, opened. -/
import Derived.Test.YtnacokogihanoaaDoorRF
namespace Go.Proofs.YtnacokogihanoaaDoor
open Go.RowKit Go.ChangeShapes Go.WideShapes Go.ChangeAt Go.Joins
set_option linter.unusedSimpArgs false
set_option linter.unusedVariables false

theorem cells_rat : Tryd.prog.cellsOf 50 = 2 := by kernel_rfl
theorem readable_rat : Tryd.prog.readableRec 50 = true := by kernel_rfl
theorem typed_rat : 50 < Tryd.prog.types.size := of_decide_eq_true (by kernel_rfl)
theorem readable_word : Tryd.prog.readableRec 24 = true := by kernel_rfl
theorem typed_word : 24 < Tryd.prog.types.size := of_decide_eq_true (by kernel_rfl)
set_option maxRecDepth 100000 in
theorem open_natf {H : Type} {enc : TypeId × Value → H} {W : World} {v : Value} {fuel : Nat} {y : DataW H × List MemPlace}
    (hf : DataW.trod enc Tryd.prog W 0 (fun _ => true) true fuel 23 [v] = some y) : ∃ A n c xs, v = .slice A n c ∧ Lim W A n c xs := by
  rcases open_ints Tryd.underlying23 Tryd.underlying37 cells_u32 hf with ⟨hcs, hx⟩ | ⟨a, len, cap, zs, hcs, _, hle, hmax, hall, hx, hcell, hwf⟩
  · simp at hcs
    subst hcs
    exact ⟨none, 0, 0, [], rfl, Lim.none_ _ _ _ (Nat.zero_le _)⟩
  · simp at hcs
    subst hcs
    simp only [if_true] at hall
    unfold maxLen at hmax
    refine ⟨_, _, _, (zs.take len).map Int.toNat, rfl, by simp; omega, hle, hmax, fun j hj => ⟨_, rfl, ?_⟩, ?_⟩
    · have hj' : j < len ∧ j < zs.length := by simp at hj; omega
      rw [hcell j hj'.2]
      have hb := bounds_u32 (hwf _ (List.getElem_mem hj'.2))
      have e : zs.getD j 0 = zs[j] := by simp [List.getD, List.getElem?_eq_getElem hj'.2]
      rw [e]
      simp only [List.getElem_map, List.getElem_take]
      exact congrArg (fun z => some (Value.int .u32 z)) (by omega)
    · intro x hx
      rw [List.mem_map] at hx
      obtain ⟨z, hz, rfl⟩ := hx
      have hb := bounds_u32 (hwf z (List.mem_of_mem_take hz))
      omega
set_option maxRecDepth 100000 in
/-- An argument that is a pair of limbs, opened. -/
theorem open_rat {H : Type} {enc : TypeId × Value → H} {W : World} {base : Nat} {v : Value} {d : DataW H} {p : List MemPlace} (hv : Value.okWide Tryd.prog W .any base 50 v)
    (h : DataW.Trod enc Tryd.prog W 0 (fun _ => true) true 50 v d p) : ∃ t : It, v = .agg #[.slice t.A t.n t.c, .slice t.A' t.n' t.c'] ∧ t.At W := by
  obtain ⟨c0, c1, y0, y1, m, rfl, rfl, rfl, hy0, hy1⟩ := open_agg2 Tryd.underlying50 (by kernel_rfl) cells_rat hv h
  obtain ⟨A, n, c, xs, rfl, l⟩ := open_natf hy0
  obtain ⟨A', n', c', ys, rfl, l'⟩ := open_natf hy1
  exact ⟨⟨A, n, c, xs, A', n', c', ys⟩, rfl, l, l'⟩
set_option maxRecDepth 100000 in
/-- An argument that is a word, opened. -/
theorem open_word {H : Type} {enc : TypeId × Value → H} {W : World} {base : Nat} {v : Value} {d : DataW H} {p : List MemPlace} (hv : Value.okWide Tryd.prog W .any base 24 v)
    (h : DataW.Trod enc Tryd.prog W 0 (fun _ => true) true 24 v d p) : ∃ x : Nat, v = .int .u64 (x : Int) ∧ x < 18446744073709551616 := by
  obtain ⟨x, rfl, rfl, rfl, wx⟩ := open_int Tryd.underlying24 hv h
  have hb := bounds_u64 wx
  exact ⟨x.toNat, congrArg (Value.int .u64) (by omega), by omega⟩
end Go.Proofs.YtnacokogihanoaaDoor
