/- Arguments that are words, limbs, numbers, opened; the rows' last step. -/
import Derived.Test.YthhphbaimpcjfaaDAW
import Derived.ProofKit
import Derived.OpenShut
import Derived.Carry
import Derived.Lay
import Derived.ChangeMaps5
import Derived.Lib.SmallJoins
namespace Go.Proofs.Ythhphbaimpcjfaa
open Go.RowKit Go.ChangeShapes Go.WideShapes Go.ChangeAt Go.Joins
set_option linter.unusedSimpArgs false
set_option linter.unusedVariables false

theorem keep_drew {w : World} {p : Addr} {v : Value} (h : w.cell? p = some v) : w.drew.cell? p = some v := h
theorem own : ownKnob Try.prog.godebug = none := by kernel_rfl
theorem laidOut : laidOutB Try.prog = true := by kernel_rfl
theorem cells_u32 : Try.prog.cellsOf 48 = 1 := by kernel_rfl
theorem cells_u64 : Try.prog.cellsOf 23 = 1 := by kernel_rfl
theorem readable_nat : Try.prog.readableRec 25 = true := by kernel_rfl
theorem typed_nat : 25 < Try.prog.types.size := of_decide_eq_true (by kernel_rfl)
theorem readable_words : Try.prog.readableRec 22 = true := by kernel_rfl
theorem typed_words : 22 < Try.prog.types.size := of_decide_eq_true (by kernel_rfl)
theorem readable_u64 : Try.prog.readableRec 23 = true := by kernel_rfl
theorem typed_u64 : 23 < Try.prog.types.size := of_decide_eq_true (by kernel_rfl)
theorem readable_int : Try.prog.readableRec 3 = true := by kernel_rfl
theorem typed_int : 3 < Try.prog.types.size := of_decide_eq_true (by kernel_rfl)
theorem readable_u16 : Try.prog.readableRec 42 = true := by kernel_rfl
theorem typed_u16 : 42 < Try.prog.types.size := of_decide_eq_true (by kernel_rfl)
theorem readable_u8 : Try.prog.readableRec 5 = true := by kernel_rfl
theorem typed_u8 : 5 < Try.prog.types.size := of_decide_eq_true (by kernel_rfl)
section
variable {H : Type} {enc : TypeId × Value → H} {W : World} {base : Nat} {v : Value} {d : DataW H} {p : List MemPlace}
set_option maxRecDepth 100000 in
theorem open_nat (hv : Value.okWide Try.prog W .any base 25 v)
    (h : DataW.Trod enc Try.prog W 0 (fun _ => true) true 25 v d p) : ∃ A n c xs, v = .slice A n c ∧ Lim W A n c xs := by
  obtain ⟨A, n, c, rfl⟩ := okWide_slice Try.underlying25 hv
  obtain ⟨fuel, hf⟩ := h
  rcases open_ints Try.underlying25 Try.underlying48 cells_u32 hf with ⟨hcs, hx⟩ | ⟨a, len, cap, zs, hcs, _, hle, hmax, hall, hx, hcell, hwf⟩
  · simp [Value.cells] at hcs
    obtain ⟨rfl, rfl, rfl⟩ := hcs
    exact ⟨none, 0, 0, [], rfl, Lim.none_ _ _ _ (Nat.zero_le _)⟩
  · simp [Value.cells] at hcs
    obtain ⟨rfl, rfl, rfl⟩ := hcs
    simp only [if_true] at hall
    unfold maxLen at hmax
    refine ⟨_, _, _, (zs.take n).map Int.toNat, rfl, by simp; omega, hle, hmax, fun j hj => ⟨_, rfl, ?_⟩, ?_⟩
    · have hj' : j < n ∧ j < zs.length := by simp at hj; omega
      rw [hcell j hj'.2]
      have hb := bounds_u32 (hwf _ (List.getElem_mem hj'.2))
      have e : zs.getD j 0 = zs[j] := by simp [List.getD, List.getElem?_eq_getElem hj'.2]
      rw [e]
      simp only [List.getElem_map, List.getElem_take]
      exact congrArg (fun z => some (Value.int .u32 z)) (by omega)
    · intro x hx
      rw [List.mem_map] at hx
      obtain ⟨z, hz, rfl⟩ := hx
      have hb := bounds_u32 (hwf z (List.mem_of_mem_take hz))
      omega
set_option maxRecDepth 100000 in
theorem open_words (hv : Value.okWide Try.prog W .any base 22 v)
    (h : DataW.Trod enc Try.prog W 0 (fun _ => true) true 22 v d p) : ∃ A n c xs, v = .slice A n c ∧ Wl W A n c xs := by
  obtain ⟨A, n, c, rfl⟩ := okWide_slice Try.underlying22 hv
  obtain ⟨fuel, hf⟩ := h
  rcases open_ints Try.underlying22 Try.underlying23 cells_u64 hf with ⟨hcs, hx⟩ | ⟨a, len, cap, zs, hcs, _, hle, hmax, hall, hx, hcell, hwf⟩
  · simp [Value.cells] at hcs
    obtain ⟨rfl, rfl, rfl⟩ := hcs
    exact ⟨none, 0, 0, [], rfl, Wl.none_ _ _ _ (Nat.zero_le _)⟩
  · simp [Value.cells] at hcs
    obtain ⟨rfl, rfl, rfl⟩ := hcs
    simp only [if_true] at hall
    unfold maxLen at hmax
    refine ⟨_, _, _, (zs.take n).map Int.toNat, rfl, by simp; omega, hle, hmax, fun j hj => ⟨_, rfl, ?_⟩, ?_⟩
    · have hj' : j < n ∧ j < zs.length := by simp at hj; omega
      rw [hcell j hj'.2]
      have hb := bounds_u64 (hwf _ (List.getElem_mem hj'.2))
      have e : zs.getD j 0 = zs[j] := by simp [List.getD, List.getElem?_eq_getElem hj'.2]
      rw [e]
      simp only [List.getElem_map, List.getElem_take]
      exact congrArg (fun z => some (Value.int .u64 z)) (by omega)
    · intro x hx
      rw [List.mem_map] at hx
      obtain ⟨z, hz, rfl⟩ := hx
      have hb := bounds_u64 (hwf z (List.mem_of_mem_take hz))
      omega
set_option maxRecDepth 100000 in
theorem open_u64 (hv : Value.okWide Try.prog W .any base 23 v) (h : DataW.Trod enc Try.prog W 0 (fun _ => true) true 23 v d p) : ∃ n : Nat, v = .int .u64 (n : Int) ∧ n < 18446744073709551616 := by
  obtain ⟨x, rfl, rfl, rfl, wx⟩ := open_int Try.underlying23 hv h
  obtain ⟨a, b⟩ := bounds_u64 wx
  exact ⟨x.toNat, by rw [Int.toNat_of_nonneg a], by omega⟩
set_option maxRecDepth 100000 in
theorem open_u16 (hv : Value.okWide Try.prog W .any base 42 v) (h : DataW.Trod enc Try.prog W 0 (fun _ => true) true 42 v d p) : ∃ n : Nat, v = .int .u16 (n : Int) ∧ n < 65536 := by
  obtain ⟨x, rfl, rfl, rfl, wx⟩ := open_int Try.underlying42 hv h
  obtain ⟨a, b⟩ := bounds_u16 wx
  exact ⟨x.toNat, by rw [Int.toNat_of_nonneg a], by omega⟩
set_option maxRecDepth 100000 in
theorem open_u8 (hv : Value.okWide Try.prog W .any base 5 v) (h : DataW.Trod enc Try.prog W 0 (fun _ => true) true 5 v d p) : ∃ n : Nat, v = .int .u8 (n : Int) ∧ n < 256 := by
  obtain ⟨x, rfl, rfl, rfl, wx⟩ := open_int Try.underlying5 hv h
  obtain ⟨a, b⟩ := bounds_u8 wx
  exact ⟨x.toNat, by rw [Int.toNat_of_nonneg a], by omega⟩
set_option maxRecDepth 100000 in
theorem open_i64 (hv : Value.okWide Try.prog W .any base 3 v) (h : DataW.Trod enc Try.prog W 0 (fun _ => true) true 3 v d p) : ∃ x : Int, v = .int .i64 x ∧ -9223372036854775808 ≤ x ∧ x ≤ 9223372036854775807 := by
  obtain ⟨x, rfl, rfl, rfl, wx⟩ := open_int Try.underlying3 hv h
  exact ⟨x, rfl, bounds_i64 wx⟩
end
section
variable {H : Type} {enc : TypeId × Value → H} {P : Program}
/-- The row's last step: the arguments read as they did. -/
theorem post_args {f : Func} {s : ChangeSpec} {apart : Bool} {W W' : World} {args : Array Value} {v : Value} {ds gs : List (DataW H)} {before : List MemPlace}
    (hW : DataW.Whole enc P f.params.toList s.vars apart W args.toList ds gs before)
    (hres : ∀ (b : Nat) (sp : Nat → Bool) (hd : Bool), DataW.TrodAll enc P W' b sp hd f.resultTypes.toList (v.resultList f.resultTypes.size) (s.fn H (ds ++ gs)).results [])
    (hargs : DataW.TrodAll enc P W' 0 (fun b => decide (b < W.heap.size)) true f.params.toList args.toList (s.fn H (ds ++ gs)).args before)
    (hvars : ∀ sp : Nat → Bool, DataW.TrodVars enc P W' sp s.vars (s.fn H (ds ++ gs)).vars [])
    (hb : Below W.heap.size W W') : s.post enc P f apart true false false W args v W' :=
  ⟨ds, gs, before, [], before, [], hW, hres _ _ _, hargs, hvars _, hb.frame _, fun h => by cases h⟩
end
end Go.Proofs.Ythhphbaimpcjfaa
