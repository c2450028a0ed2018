/- What the laws' walks share: numbers that lie in blocks of the call's own; and the rows' steps. -/
import Derived.Test.YtgafejolijjiiaaWalkJ
import Derived.ProofKit
import Derived.OpenShut
import Derived.Lib.SmallJoins
namespace Go.Proofs.Ytgafejolijjiiaa
open Go.RowKit Go.ChangeShapes Go.WideShapes Go.ChangeAt Go.Joins
set_option linter.unusedSimpArgs false
set_option linter.unusedVariables false

/-- In each block the number lies that stands beside it. -/
def Lie : List (Nat × Nat) → World → Prop
  | [], _ => True
  | (b, n) :: r, w => w.cell? ⟨b, 0, none⟩ = some (.int .u64 (hi n)) ∧ w.cell? ⟨b, 1, none⟩ = some (.int .u64 (lo n)) ∧ Lie r w
theorem Lie.next {W w1 : World} (hb : Below W.heap.size W w1) : ∀ {L : List (Nat × Nat)}, Lie L W → Lie L w1
  | [], _ => trivial
  | (_, _) :: _, h => ⟨keep_cell hb h.1, keep_cell hb h.2.1, Lie.next hb h.2.2⟩
theorem Lie.box {W : World} {L : List (Nat × Nat)} (h : Lie L W) (n : Nat) : Lie ((W.heap.size, n) :: L) (W.alloc (.cells #[.int .u64 (hi n), .int .u64 (lo n)] 24)) :=
  ⟨by simp [go_sem], by simp [go_sem], Lie.next ((Below.refl _ _).alloc (Nat.le_refl _) _) h⟩
theorem Lie.drew {W : World} : ∀ {L : List (Nat × Nat)}, Lie L W → Lie L W.drew
  | [], _ => trivial
  | (_, _) :: _, h => ⟨h.1, h.2.1, Lie.drew h.2.2⟩
/-- .. and nothing that was there has turned. -/
structure St (w : World) (L : List (Nat × Nat)) (wx : World) : Prop where
  lie : Lie L wx
  bl : Below w.heap.size w wx
theorem St.start (w : World) : St w [] w := ⟨trivial, Below.refl _ _⟩
theorem St.next {w : World} {L : List (Nat × Nat)} {W w1 : World} (s : St w L W) (hb : Below W.heap.size W w1) : St w L w1 := ⟨s.lie.next hb, below_step s.bl hb⟩
theorem St.box {w : World} {L : List (Nat × Nat)} {W : World} (s : St w L W) (n : Nat) : St w ((W.heap.size, n) :: L) (W.alloc (.cells #[.int .u64 (hi n), .int .u64 (lo n)] 24)) := ⟨s.lie.box n, s.bl.alloc s.bl.size _⟩
theorem St.drew {w : World} {L : List (Nat × Nat)} {W : World} (s : St w L W) : St w L W.drew := ⟨s.lie.drew, s.bl.drew⟩

theorem fact_of {p q : Prop} (h : p) (k : p → q) : q := k h

theorem cell_put0 {w : World} {b : Nat} {u v : Value} (h : w.cell? ⟨b, 0, none⟩ = some (.int .u64 0)) : ((w.setCell ⟨b, 0, none⟩ u).setCell ⟨b, 1, none⟩ v).cell? ⟨b, 0, none⟩ = some u := by simp [go_sem, h]
theorem cell_put1 {w : World} {b : Nat} {u v : Value} (h : w.cell? ⟨b, 1, none⟩ = some (.int .u64 0)) : ((w.setCell ⟨b, 0, none⟩ u).setCell ⟨b, 1, none⟩ v).cell? ⟨b, 1, none⟩ = some v := by simp [go_sem, h]

theorem wf_word {x : Int} (h : (Lit.int .u64 x).wf = true) : Word x := by
  obtain ⟨a, b⟩ := bounds_u64 h
  exact .mk a (by omega)

theorem own : ownKnob Try.prog.godebug = none := by kernel_rfl
theorem cells24 : Try.prog.cellsOf 24 = 2 := by kernel_rfl

/-- An argument that is a number of 128 bits, opened; and how it is shut again. -/
theorem open_num {H : Type} {enc : TypeId × Value → H} {W : World} {base : Nat} {v : Value} {d : DataW H} {p : List MemPlace} (hv : Value.okWide Try.prog W .any base 24 v)
    (h : DataW.Trod enc Try.prog W 0 (fun _ => true) true 24 v d p) : ∃ n, Fits n ∧ v = U n ∧ d = .agg [.lit (.int .u64 (hi n)), .lit (.int .u64 (lo n))] ∧ p = [] ∧
      ∀ (W' : World) (sp : Nat → Bool), DataW.Trod enc Try.prog W' 0 sp true 24 (U n) (.agg [.lit (.int .u64 (hi n)), .lit (.int .u64 (lo n))]) [] := by
  obtain ⟨c0, c1, y0, y1, m, rfl, rfl, rfl, hy0, hy1⟩ := open_agg2 Try.underlying24 (by kernel_rfl) cells24 hv h
  obtain ⟨a, e0, rfl, wa⟩ := DataW.trod_int Try.underlying22 hy0
  obtain ⟨b, e1, rfl, wb⟩ := DataW.trod_int Try.underlying22 hy1
  simp at e0 e1
  subst e0 e1
  obtain ⟨n, hn, rfl, rfl⟩ := words_of a b (wf_word wa).nn (wf_word wa).lt (wf_word wb).nn (wf_word wb).lt
  refine ⟨n, hn, rfl, rfl, rfl, fun W' sp => ?_⟩
  exact shut_agg2 (y0 := (.lit (.int .u64 (hi n)), [])) (y1 := (.lit (.int .u64 (lo n)), [])) Try.underlying24 (by kernel_rfl) cells24 ⟨1, by simp [DataW.trod, Try.underlying22, wa]⟩ ⟨1, by simp [DataW.trod, Try.underlying22, wb]⟩

section
variable {H : Type} {enc : TypeId × Value → H} {P : Program}
/-- The row's last step where no argument reaches into memory. -/
theorem post_plain {f : Func} {s : ChangeSpec} {apart : Bool} {W W' : World} {args : Array Value} {v : Value} {ds gs : List (DataW H)}
    (hW : DataW.Whole enc P f.params.toList s.vars apart W args.toList ds gs [])
    (hres : ∀ (b : Nat) (sp : Nat → Bool) (hd : Bool), DataW.TrodAll enc P W' b sp hd f.resultTypes.toList (v.resultList f.resultTypes.size) (s.fn H (ds ++ gs)).results [])
    (hargs : ∀ sp : Nat → Bool, DataW.TrodAll enc P W' 0 sp true f.params.toList args.toList (s.fn H (ds ++ gs)).args [])
    (hvars : ∀ sp : Nat → Bool, DataW.TrodVars enc P W' sp s.vars (s.fn H (ds ++ gs)).vars [])
    (hb : Below W.heap.size W W') : s.post enc P f apart true false false W args v W' :=
  ⟨ds, gs, [], [], [], [], hW, hres _ _ _, hargs _, hvars _, hb.frame _, fun h => by cases h⟩
end
end Go.Proofs.Ytgafejolijjiiaa
