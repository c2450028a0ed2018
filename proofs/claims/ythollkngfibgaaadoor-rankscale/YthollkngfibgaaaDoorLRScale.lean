/- For every two items and every number of 32 bits the law RankScale answers true: both numbers of an item, times one number, change nothing in who stands ahead. No condition beyond the row; the tables of unicode/utf8 start as the program lays them (tied). -/
import Derived.Test.YthollkngfibgaaaDoorJ10
import Derived.Test.YthollkngfibgaaaDoorJ13
import Derived.Test.YthollkngfibgaaaDoorKLScale
namespace Go.Proofs.YthollkngfibgaaaDoor.rankScale
open Go.ChangeShapes Go.WideShapes Go.ChangeAt Go.RowKit
open Go.Proofs.YthollkngfibgaaaDoor
set_option linter.unusedVariables false
set_option linter.unusedSimpArgs false

set_option maxRecDepth 100000 in
theorem lifted (os : Os) (started : os.Started) (H : Type) (enc : TypeId × Value → H) :
    ReturnsInHanded {} Tryd.checked os 7 .any (fun w args => (Rows.rankScaleSpec.pre enc Tryd.prog Tryd.f7 Rows.rankScaleRow.domain false w args ∧ laidMetH Tryd.prog Rows.rankScaleRow.laid w) ∧ sizedMet enc Tryd.prog Tryd.f7 (OpenSpec.ofChange Rows.rankScaleSpec) false w args)
      (Rows.rankScaleSpec.post enc Tryd.prog Tryd.f7 false true false false) := by
  refine returnsInHanded_of_change_and (C := Tryd.checked) (X := fun w _ => laidMetH Tryd.prog Rows.rankScaleRow.laid w) (fun _ _ _ hh h => h.of_heap hh) own started (by kernel_rfl) Tryd.func7
    (ChangeSpec.witness_shaped (enc := enc) (C := Tryd.checked) (os := os) (X := fun w _ => laidMetH Tryd.prog Rows.rankScaleRow.laid w) false (World.laidAll Tryd.prog os Rows.rankScaleRow.laid) #[.agg #[.string ⟨#[]⟩, .int .u64 0, .int .u64 0], .agg #[.string ⟨#[]⟩, .int .u64 0, .int .u64 0], .int .u32 0] 8 (World.laidAll_os _ _ _)
      (World.shaped_of_ZipB (by kernel_rfl) (by kernel_rfl)) (by kernel_rfl) (by kernel_rfl) (by kernel_rfl)
      (by rw [MakeChecks.laidMetH_plain _ _ _ (by kernel_rfl)]; exact laidMet_laidAll _ (by kernel_rfl) (by kernel_rfl))) ?_
  intro W base args ds gs before hval0 hW _ _ _ _
  have hval : ∀ (j : Nat) t v, Tryd.f7.params[j]? = some t → args[j]? = some v → Value.okWide Tryd.prog W .any base t v := hval0
  have hW' := hW
  obtain ⟨p, q, hA0, hV, rfl, _, _⟩ := hW
  have hA : DataW.TrodAll enc Tryd.prog W 0 (fun _ => true) true Tryd.f7.params.toList args.toList ds p := hA0
  rw [Tryd.params7] at hA hval
  obtain ⟨v0, v1, v2, d0, d1, d2, p0, p1, p2, rfl, rfl, rfl, h0t, h1t, h2t⟩ := trodAll_three hA
  obtain ⟨rfl, rfl⟩ := trodVars_none hV
  obtain ⟨x0, rfl, h0⟩ := open_item (hval 0 24 v0 rfl rfl) h0t
  obtain ⟨x1, rfl, h1⟩ := open_item (hval 1 24 v1 rfl rfl) h1t
  obtain ⟨x2, rfl, h2⟩ := open_half (hval 2 49 v2 rfl rfl) h2t
  clear hA0 hval0
  simp only [List.append_nil] at hW'
  have hlt : ∀ x ∈ p0 ++ p1 ++ p2, x.block < W.heap.size := fun x hx => by simpa using hW'.lt x (by simpa using hx)
  refine (walk prog10 awake10 x0 x1 h0 h1 x2 h2 W).mono fun e W' ⟨he, hbl⟩ => ?_
  subst he
  refine ⟨_, rfl, post_args hW' (fun _ _ _ => trodAll_mk1 (shut_bool Tryd.underlying4 _)) ?_ (fun _ => rfl) hbl⟩
  have t0 := Below.trod laidOut readable_item typed_item h0t hbl (fun x hx => hlt x (List.mem_append_left _ (List.mem_append_left _ hx)))
  have t1 := Below.trod laidOut readable_item typed_item h1t hbl (fun x hx => hlt x (List.mem_append_left _ (List.mem_append_right _ hx)))
  have t2 := Below.trod laidOut readable_half typed_half h2t hbl (fun x hx => hlt x (List.mem_append_right _ hx))
  exact (List.append_assoc p0 p1 p2) ▸ trodAll_mk3 t0 t1 t2

theorem holds : Rows.RankScaleSaid :=
  OpenClaim.holds_of_wide 7 Tryd.f7 rfl rfl rfl rfl rfl rfl rfl ⟨rfl, rfl, rfl, rfl, rfl⟩ rfl rfl rfl rfl rfl (by kernel_rfl) Tryd.func7 (by kernel_rfl)
    (of_decide_eq_true (by kernel_rfl)) (by unfold Func.isWrapper; first | (rw [if_pos (by decide +kernel)]; kernel_rfl) | (rw [if_neg (by decide +kernel)]; exact ⟨rfl, rfl⟩))
    (fun os started H enc _ => lifted os started H enc)
theorem proved : Rows.RankScaleCardSaid :=
  Claim7.holds_tied_plain_at .later [] [.data, .pinned] true (true, "ecb8e265aa821dad0c418b1eaefde43a6e538618f8af4834528350624f7f29ee") false
    holds (fun _ h => by cases h) (by kernel_rfl) (fun _ h => by cases h) rankScale_row_tie rfl ⟨rfl, rfl⟩ (by kernel_rfl) rfl
    (fun f fn hf hfn => by
      obtain rfl : f = 7 := Option.some.inj ((show Tryd.prog.funcNamed "samphire/samphirelaw10.RankScale" = some 7 by kernel_rfl).symm.trans hf) |>.symm
      obtain rfl : fn = Tryd.f7 := (Option.some.inj (Tryd.func7.symm.trans hfn)).symm
      exact ⟨by kernel_rfl, fun j t ht => by
        rw [Tryd.params7] at ht
        rcases j with _ | _ | _ | j
        · obtain rfl : t = 24 := by simpa using ht.symm
          exact (show Tryd.prog.wantsStandIn 24 = false by kernel_rfl)
        · obtain rfl : t = 24 := by simpa using ht.symm
          exact (show Tryd.prog.wantsStandIn 24 = false by kernel_rfl)
        · obtain rfl : t = 49 := by simpa using ht.symm
          exact (show Tryd.prog.wantsStandIn 49 = false by kernel_rfl)
        · simp at ht⟩)
    (by kernel_rfl)
#print axioms proved
end Go.Proofs.YthollkngfibgaaaDoor.rankScale
