/- Arguments that are words of 32 and of 16 bits, bytes, four bytes, opened; the rows' last step. -/
import Derived.Test.YtkghlijmlifmjaaCAW
import Derived.ProofKit
import Derived.OpenShut
import Derived.Carry
import Derived.Lay
import Derived.ChangeMaps5
import Derived.SliceStrings
import Derived.Laws.IdiomArrays
import Derived.Lib.SmallJoins
namespace Go.Proofs.Ytkghlijmlifmjaa
open Go.RowKit Go.ChangeShapes Go.WideShapes Go.ChangeAt Go.Joins
set_option linter.unusedSimpArgs false
set_option linter.unusedVariables false

theorem own : ownKnob Try.prog.godebug = none := by kernel_rfl
theorem laidOut : laidOutB Try.prog = true := by kernel_rfl
theorem cells_b4 : Try.prog.cellsOf 34 = 4 := by kernel_rfl
theorem cells_u8 : Try.prog.cellsOf 5 = 1 := by kernel_rfl
theorem readable_b4 : Try.prog.readableRec 34 = true := by kernel_rfl
theorem typed_b4 : 34 < Try.prog.types.size := of_decide_eq_true (by kernel_rfl)
theorem readable_u8 : Try.prog.readableRec 5 = true := by kernel_rfl
theorem typed_u8 : 5 < Try.prog.types.size := of_decide_eq_true (by kernel_rfl)
theorem readable_u16 : Try.prog.readableRec 31 = true := by kernel_rfl
theorem typed_u16 : 31 < Try.prog.types.size := of_decide_eq_true (by kernel_rfl)
theorem readable_u32 : Try.prog.readableRec 22 = true := by kernel_rfl
theorem typed_u32 : 22 < Try.prog.types.size := of_decide_eq_true (by kernel_rfl)
theorem readable_str : Try.prog.readableRec 9 = true := by kernel_rfl
theorem typed_str : 9 < Try.prog.types.size := of_decide_eq_true (by kernel_rfl)

theorem byte_of {x : Int} (h : (Lit.int .u8 x).wf = true) : ∃ b : UInt8, x = (b.toNat : Int) := by
  obtain ⟨a, b⟩ := bounds_u8 h
  refine ⟨UInt8.ofNat x.toNat, ?_⟩
  rw [UInt8.toNat_ofNat']; omega
/-- Four bytes as the program has them. -/
abbrev b4 (a b c d : UInt8) : Value := .agg #[.int .u8 (a.toNat : Int), .int .u8 (b.toNat : Int), .int .u8 (c.toNat : Int), .int .u8 (d.toNat : Int)]
section
variable {H : Type} {enc : TypeId × Value → H} {W : World} {base : Nat} {v : Value} {d : DataW H} {p : List MemPlace}
set_option maxRecDepth 100000 in
theorem open_b4 (hv : Value.okWide Try.prog W .any base 34 v) (h : DataW.Trod enc Try.prog W 0 (fun _ => true) true 34 v d p) : ∃ a b c d, v = b4 a b c d := by
  obtain ⟨cs, rfl, hsz, _⟩ : ∃ cs, v = .agg cs ∧ cs.size = Try.prog.cellsOf 34 ∧ Row.okWide Try.prog W .any base 34 cs := by
    simpa [Value.okWide, Try.underlying34] using hv
  obtain ⟨c0, c1, c2, c3, rfl⟩ := array4 (hsz.trans cells_b4)
  obtain ⟨fuel, hf⟩ := h
  obtain ⟨y0, y1, y2, y3, m, hx, hy0, hy1, hy2, hy3⟩ := trod_array4 Try.underlying34 cells_u8 hf
  obtain ⟨x0, e0, rfl, w0⟩ := DataW.trod_int Try.underlying5 hy0
  obtain ⟨x1, e1, rfl, w1⟩ := DataW.trod_int Try.underlying5 hy1
  obtain ⟨x2, e2, rfl, w2⟩ := DataW.trod_int Try.underlying5 hy2
  obtain ⟨x3, e3, rfl, w3⟩ := DataW.trod_int Try.underlying5 hy3
  simp at e0 e1 e2 e3
  subst e0 e1 e2 e3
  obtain ⟨a, rfl⟩ := byte_of w0
  obtain ⟨b, rfl⟩ := byte_of w1
  obtain ⟨c, rfl⟩ := byte_of w2
  obtain ⟨d, rfl⟩ := byte_of w3
  exact ⟨a, b, c, d, rfl⟩
set_option maxRecDepth 100000 in
theorem open_u32 (hv : Value.okWide Try.prog W .any base 22 v) (h : DataW.Trod enc Try.prog W 0 (fun _ => true) true 22 v d p) : ∃ x, v = .int .u32 (J x) := by
  obtain ⟨x, rfl, rfl, rfl, wx⟩ := open_int Try.underlying22 hv h
  have hb := bounds_u32 wx
  obtain ⟨y, hy⟩ := J_of hb.1 (by omega)
  exact ⟨y, by rw [hy]⟩
set_option maxRecDepth 100000 in
theorem open_u8 (hv : Value.okWide Try.prog W .any base 5 v) (h : DataW.Trod enc Try.prog W 0 (fun _ => true) true 5 v d p) : ∃ b : UInt8, v = .int .u8 (b.toNat : Int) := by
  obtain ⟨x, rfl, rfl, rfl, wx⟩ := open_int Try.underlying5 hv h
  obtain ⟨a, rfl⟩ := byte_of wx
  exact ⟨a, rfl⟩
set_option maxRecDepth 100000 in
theorem open_u16 (hv : Value.okWide Try.prog W .any base 31 v) (h : DataW.Trod enc Try.prog W 0 (fun _ => true) true 31 v d p) : ∃ n : Nat, v = .int .u16 (n : Int) ∧ n < 65536 := by
  obtain ⟨x, rfl, rfl, rfl, wx⟩ := open_int Try.underlying31 hv h
  obtain ⟨a, b⟩ := bounds_u16 wx
  exact ⟨x.toNat, by rw [Int.toNat_of_nonneg a], by omega⟩
end
section
variable {H : Type} {enc : TypeId × Value → H} {P : Program}
/-- The row's last step: the arguments read as they did. -/
theorem post_args {f : Func} {s : ChangeSpec} {apart : Bool} {W W' : World} {args : Array Value} {v : Value} {ds gs : List (DataW H)} {before : List MemPlace}
    (hW : DataW.Whole enc P f.params.toList s.vars apart W args.toList ds gs before)
    (hres : ∀ (b : Nat) (sp : Nat → Bool) (hd : Bool), DataW.TrodAll enc P W' b sp hd f.resultTypes.toList (v.resultList f.resultTypes.size) (s.fn H (ds ++ gs)).results [])
    (hargs : DataW.TrodAll enc P W' 0 (fun b => decide (b < W.heap.size)) true f.params.toList args.toList (s.fn H (ds ++ gs)).args before)
    (hvars : ∀ sp : Nat → Bool, DataW.TrodVars enc P W' sp s.vars (s.fn H (ds ++ gs)).vars [])
    (hb : Below W.heap.size W W') : s.post enc P f apart true false false W args v W' :=
  ⟨ds, gs, before, [], before, [], hW, hres _ _ _, hargs, hvars _, hb.frame _, fun h => by cases h⟩
end
end Go.Proofs.Ytkghlijmlifmjaa
