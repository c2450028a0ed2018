/- For every list of items, every item, every number and every text the law HeapTells answers true: what is pushed on, popped of, put into, and found in any items is what the document says, or refused. No condition beyond the row. -/
import Derived.Test.YtnkhgkpijfohkaaJ09
import Derived.Test.YtnkhgkpijfohkaaHLTells
namespace Go.Proofs.Ytnkhgkpijfohkaa.heapTells
open Go.ChangeShapes Go.WideShapes Go.ChangeAt Go.RowKit
open Go.Proofs.Ytnkhgkpijfohkaa
set_option linter.unusedVariables false
set_option linter.unusedSimpArgs false

set_option maxRecDepth 100000 in
theorem lifted (os : Os) (started : os.Started) (H : Type) (enc : TypeId × Value → H) :
    ReturnsInHanded {} Try.checked os 3 .any (Rows.heapTellsSpec.pre6 enc Try.prog Try.f3 Rows.heapTellsRow.domain false) (Rows.heapTellsSpec.post enc Try.prog Try.f3 false true false false) := by
  refine returnsInHanded_of_change (C := Try.checked) own started (by kernel_rfl) Try.func3
    (ChangeSpec.witness6 (enc := enc) (C := Try.checked) false ⟨#[], #[.slice none 0 0, .agg #[.string ⟨#[]⟩, .int .u64 0, .int .u64 0], .int .i64 0, .string ⟨#[]⟩], []⟩ 8 (by kernel_rfl) (by kernel_rfl) (by kernel_rfl) (by kernel_rfl)) ?_
  intro W base args ds gs before hval0 hW hcnd _
  have hval : ∀ (j : Nat) t v, Try.f3.params[j]? = some t → args[j]? = some v → Value.okWide Try.prog W .any base t v := hval0
  have hW' := hW
  obtain ⟨p, q, hA0, hV, rfl, _, _⟩ := hW
  have hA : DataW.TrodAll enc Try.prog W 0 (fun _ => true) true Try.f3.params.toList args.toList ds p := hA0
  rw [Try.params3] at hA hval
  obtain ⟨v0, v1, v2, v3, d0, d1, d2, d3, p0, p1, p2, p3, rfl, rfl, rfl, h0t, h1t, h2t, h3t⟩ := trodAll_four hA
  obtain ⟨rfl, rfl⟩ := trodVars_none hV
  obtain ⟨A0, c0, l0, rfl, h0⟩ := open_items (hval 0 22 v0 rfl rfl) h0t
  obtain ⟨x1, rfl, h1⟩ := open_item (hval 1 25 v1 rfl rfl) h1t
  obtain ⟨x2, rfl, hx2⟩ := open_i64 (hval 2 3 v2 rfl rfl) h2t
  obtain ⟨s3, rfl, -, -, hs3⟩ := Go.ChangeMaps.open_string Try.underlying9 (hval 3 9 v3 rfl rfl) h3t
  clear hA0 hval0
  simp only [List.append_nil] at hW'
  have hlt : ∀ x ∈ p0 ++ p1 ++ p2 ++ p3, x.block < W.heap.size := fun x hx => by simpa using hW'.lt x (by simpa using hx)
  refine (walk prog11 rankCheck_any awake11 h0 x1 h1 x2 hx2 s3).mono fun e W' ⟨he, hbl⟩ => ?_
  subst he
  refine ⟨_, rfl, post_args hW' (fun _ _ _ => trodAll_mk1 (shut_bool Try.underlying4 _)) ?_ (fun _ => rfl) hbl⟩
  have t0 := Below.trod laidOut readable_items typed_items h0t hbl (fun x hx => hlt x (List.mem_append_left _ (List.mem_append_left _ (List.mem_append_left _ hx))))
  have t1 := Below.trod laidOut readable_item typed_item h1t hbl (fun x hx => hlt x (List.mem_append_left _ (List.mem_append_left _ (List.mem_append_right _ hx))))
  have t2 := Below.trod laidOut readable_int typed_int h2t hbl (fun x hx => hlt x (List.mem_append_left _ (List.mem_append_right _ hx)))
  have t3 := Below.trod laidOut readable_str typed_str h3t hbl (fun x hx => hlt x (List.mem_append_right _ hx))
  exact (show p0 ++ (p1 ++ (p2 ++ p3)) = p0 ++ p1 ++ p2 ++ p3 by simp only [List.append_assoc]) ▸ trodAll_mk4 t0 t1 t2 t3

theorem proved : Rows.HeapTellsSaid :=
  OpenClaim.holds_of_wide 3 Try.f3 rfl rfl rfl rfl rfl rfl rfl ⟨rfl, rfl, rfl, rfl, rfl⟩ rfl rfl rfl rfl rfl (by kernel_rfl) Try.func3 (by kernel_rfl)
    (of_decide_eq_true (by kernel_rfl)) (by unfold Func.isWrapper; first | (rw [if_pos (by decide +kernel)]; kernel_rfl) | (rw [if_neg (by decide +kernel)]; exact ⟨rfl, rfl⟩))
    (fun os started H enc _ => lifted os started H enc)
#print axioms proved
end Go.Proofs.Ytnkhgkpijfohkaa.heapTells
