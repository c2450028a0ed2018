/- Arguments that are seeds, four numbers, hashes that go on, words, texts, opened; the rows' last step. -/
import Derived.Test.YtiombblclgkigaaSH
import Derived.ProofKit
import Derived.OpenShut
import Derived.Carry
import Derived.Lay
import Derived.ChangeMaps5
import Derived.SliceStrings
import Derived.Deep.Strs
import Derived.Laws.IdiomArrays
import Derived.Lib.SmallJoins
namespace Go.Proofs.Ytiombblclgkigaa
open Go.RowKit Go.ChangeShapes Go.WideShapes Go.ChangeAt Go.Joins
set_option linter.unusedSimpArgs false
set_option linter.unusedVariables false

theorem own : ownKnob Try.prog.godebug = none := by kernel_rfl
theorem laidOut : laidOutB Try.prog = true := by kernel_rfl
theorem cells_seed : Try.prog.cellsOf 24 = 2 := by kernel_rfl
theorem cells_v4 : Try.prog.cellsOf 29 = 4 := by kernel_rfl
theorem cells_u64 : Try.prog.cellsOf 22 = 1 := by kernel_rfl
theorem cells_int : Try.prog.cellsOf 3 = 1 := by kernel_rfl
theorem cells_str : Try.prog.cellsOf 9 = 1 := by kernel_rfl
theorem cells_hash : Try.prog.cellsOf 31 = 6 := by kernel_rfl
theorem readable_seed : Try.prog.readableRec 24 = true := by kernel_rfl
theorem typed_seed : 24 < Try.prog.types.size := of_decide_eq_true (by kernel_rfl)
theorem readable_v4 : Try.prog.readableRec 29 = true := by kernel_rfl
theorem typed_v4 : 29 < Try.prog.types.size := of_decide_eq_true (by kernel_rfl)
theorem readable_word : Try.prog.readableRec 22 = true := by kernel_rfl
theorem typed_word : 22 < Try.prog.types.size := of_decide_eq_true (by kernel_rfl)
theorem readable_str : Try.prog.readableRec 9 = true := by kernel_rfl
theorem typed_str : 9 < Try.prog.types.size := of_decide_eq_true (by kernel_rfl)
theorem readable_hash : Try.prog.readableRec 31 = true := by kernel_rfl
theorem typed_hash : 31 < Try.prog.types.size := of_decide_eq_true (by kernel_rfl)

theorem word_of {x : Int} (h : (Lit.int .u64 x).wf = true) : ∃ a, x = I a := by
  obtain ⟨a, b⟩ := bounds_u64 h
  exact I_of a (by omega)
section
variable {H : Type} {enc : TypeId × Value → H} {W : World} {base : Nat} {v : Value} {d : DataW H} {p : List MemPlace}
set_option maxRecDepth 100000 in
theorem open_seed (hv : Value.okWide Try.prog W .any base 24 v) (h : DataW.Trod enc Try.prog W 0 (fun _ => true) true 24 v d p) : ∃ a b, v = seed a b := by
  obtain ⟨c0, c1, y0, y1, m, rfl, rfl, rfl, hy0, hy1⟩ := open_agg2 Try.underlying24 (by kernel_rfl) cells_seed hv h
  obtain ⟨a, e0, rfl, wa⟩ := DataW.trod_int Try.underlying22 hy0
  obtain ⟨b, e1, rfl, wb⟩ := DataW.trod_int Try.underlying22 hy1
  simp at e0 e1
  subst e0 e1
  obtain ⟨x, rfl⟩ := word_of wa
  obtain ⟨y, rfl⟩ := word_of wb
  exact ⟨x, y, rfl⟩
set_option maxRecDepth 100000 in
theorem v4_of {fuel : Nat} {c0 c1 c2 c3 : Value} {x : DataW H × List MemPlace} (hf : DataW.trod enc Try.prog W 0 (fun _ => true) true fuel 29 [c0, c1, c2, c3] = some x) :
    ∃ u : V4, c0 = .int .u64 (I u.a) ∧ c1 = .int .u64 (I u.b) ∧ c2 = .int .u64 (I u.c) ∧ c3 = .int .u64 (I u.d) := by
  obtain ⟨y0, y1, y2, y3, m, hx, hy0, hy1, hy2, hy3⟩ := trod_array4 Try.underlying29 cells_u64 hf
  obtain ⟨x0, e0, rfl, w0⟩ := DataW.trod_int Try.underlying22 hy0
  obtain ⟨x1, e1, rfl, w1⟩ := DataW.trod_int Try.underlying22 hy1
  obtain ⟨x2, e2, rfl, w2⟩ := DataW.trod_int Try.underlying22 hy2
  obtain ⟨x3, e3, rfl, w3⟩ := DataW.trod_int Try.underlying22 hy3
  simp at e0 e1 e2 e3
  subst e0 e1 e2 e3
  obtain ⟨a, rfl⟩ := word_of w0
  obtain ⟨b, rfl⟩ := word_of w1
  obtain ⟨c, rfl⟩ := word_of w2
  obtain ⟨d, rfl⟩ := word_of w3
  exact ⟨⟨a, b, c, d⟩, rfl, rfl, rfl, rfl⟩
set_option maxRecDepth 100000 in
theorem open_v4 (hv : Value.okWide Try.prog W .any base 29 v) (h : DataW.Trod enc Try.prog W 0 (fun _ => true) true 29 v d p) : ∃ u : V4, v = u.val := by
  obtain ⟨cs, rfl, hsz, _⟩ : ∃ cs, v = .agg cs ∧ cs.size = Try.prog.cellsOf 29 ∧ Row.okWide Try.prog W .any base 29 cs := by
    simpa [Value.okWide, Try.underlying29] using hv
  obtain ⟨c0, c1, c2, c3, rfl⟩ := array4 (hsz.trans cells_v4)
  obtain ⟨fuel, hf⟩ := h
  obtain ⟨u, rfl, rfl, rfl, rfl⟩ := v4_of hf
  exact ⟨u, rfl⟩
theorem array6 {α : Type} {cs : Array α} (h : cs.size = 6) : ∃ c0 c1 c2 c3 c4 c5, cs = #[c0, c1, c2, c3, c4, c5] := by
  obtain ⟨l⟩ := cs
  match l, h with
  | [c0, c1, c2, c3, c4, c5], _ => exact ⟨c0, c1, c2, c3, c4, c5, rfl⟩
set_option maxRecDepth 100000 in
theorem open_hash (hv : Value.okWide Try.prog W .any base 31 v) (h : DataW.Trod enc Try.prog W 0 (fun _ => true) true 31 v d p) :
    ∃ u : Hs, v = u.val ∧ u.t.size ≤ maxLen ∧ -9223372036854775808 ≤ u.n ∧ u.n ≤ 9223372036854775807 := by
  obtain ⟨cs, rfl, hsz⟩ := okWide_struct Try.underlying31 hv
  obtain ⟨c0, c1, c2, c3, c4, c5, rfl⟩ := array6 (hsz.trans cells_hash)
  obtain ⟨fuel, hf⟩ := h
  obtain ⟨y0, y1, y2, n, hx, _, h0, h1, h2⟩ := Go.Deep.trod_struct3 Try.underlying31 hf
  simp [Value.cells, cells_v4] at h0
  simp [Value.cells, cells_str] at h1
  simp [Value.cells, cells_int] at h2
  obtain ⟨u, rfl, rfl, rfl, rfl⟩ := v4_of h0
  obtain ⟨t, e1, rfl, ht⟩ := DataW.trod_string Try.underlying9 h1
  obtain ⟨k, e2, rfl, hk⟩ := DataW.trod_int Try.underlying3 h2
  simp at e1 e2
  subst e1 e2
  have hb := bounds_i64 hk
  exact ⟨⟨u, t, k⟩, rfl, ht, hb.1, by have := hb.2; omega⟩
set_option maxRecDepth 100000 in
theorem open_word (hv : Value.okWide Try.prog W .any base 22 v) (h : DataW.Trod enc Try.prog W 0 (fun _ => true) true 22 v d p) : ∃ x, v = .int .u64 (I x) := by
  obtain ⟨x, rfl, rfl, rfl, wx⟩ := open_int Try.underlying22 hv h
  obtain ⟨a, rfl⟩ := word_of wx
  exact ⟨a, rfl⟩
end
section
variable {H : Type} {enc : TypeId × Value → H} {P : Program}
/-- The row's last step: the arguments read as they did. -/
theorem post_args {f : Func} {s : ChangeSpec} {apart : Bool} {W W' : World} {args : Array Value} {v : Value} {ds gs : List (DataW H)} {before : List MemPlace}
    (hW : DataW.Whole enc P f.params.toList s.vars apart W args.toList ds gs before)
    (hres : ∀ (b : Nat) (sp : Nat → Bool) (hd : Bool), DataW.TrodAll enc P W' b sp hd f.resultTypes.toList (v.resultList f.resultTypes.size) (s.fn H (ds ++ gs)).results [])
    (hargs : DataW.TrodAll enc P W' 0 (fun b => decide (b < W.heap.size)) true f.params.toList args.toList (s.fn H (ds ++ gs)).args before)
    (hvars : ∀ sp : Nat → Bool, DataW.TrodVars enc P W' sp s.vars (s.fn H (ds ++ gs)).vars [])
    (hb : Below W.heap.size W W') : s.post enc P f apart true false false W args v W' :=
  ⟨ds, gs, before, [], before, [], hW, hres _ _ _, hargs, hvars _, hb.frame _, fun h => by cases h⟩
end
end Go.Proofs.Ytiombblclgkigaa
