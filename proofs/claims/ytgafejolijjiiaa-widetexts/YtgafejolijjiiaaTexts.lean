/- For every number of 128 bits and every text the law WideTexts answers true: the text of the number, and the number of the text, or that there is none, are what the document says. No condition. -/
import Derived.Test.YtgafejolijjiiaaBase
import Derived.Test.YtgafejolijjiiaaRefI
import Derived.Test.YtgafejolijjiiaaRefJ
import Derived.ChangeMaps5
namespace Go.Proofs.Ytgafejolijjiiaa.wideTexts
open Go.ChangeShapes Go.WideShapes Go.ChangeAt Go.RowKit
open Go.Proofs.Ytgafejolijjiiaa
set_option linter.unusedVariables false
set_option linter.unusedSimpArgs false

set_option maxHeartbeats 4000000 in
set_option maxRecDepth 100000 in
theorem walk (a : Nat) (ha : Fits a) (s : ByteArray) (hs : s.size ≤ maxLen) (w : World) : Calls Try.prog 4 #[U a, .string s] w fun e w' => e = .returned (.bool true) ∧ Below w.heap.size w w' := by
  have K1 := Lib.hid (read_any s hs)
  have K2 := Lib.hid (refRead_any s hs)
  generalize readN s.data.toList = N at *
  generalize readB s.data.toList = o at *
  have K3 := Lib.hid (text_any a ha)
  have K4 := Lib.hid (refText_any a ha)
  generalize text a = L at *
  clear ha
  unfold maxLen at hs
  go_enter Try.func4, Try.ntmps4
  by_cases big : 60 < (s.size : Int)
  · go_wp2_with (go_at_call 23; refine (awake_any _).mono ?_; rintro e y ⟨rfl, hy⟩)
    go_ret
    exact ⟨rfl, below_step ((Below.refl _ _).alloc (Nat.le_refl _) _) hy⟩
  · go_upto_region 3 with fail
    have S := (St.start w).box a
    generalize w.alloc (.cells #[.int .u64 (hi a), .int .u64 (lo a)] 24) = w0 at *
    obtain ⟨a0, a1, _⟩ := S.lie
    go_upto_region 4 with (go_at_call 24; refine (K1.out _).mono ?_; rintro e w1 ⟨rfl, hb1⟩)
    have S1 := (S.next hb1).box N
    generalize w1.alloc (.cells #[.int .u64 (hi N), .int .u64 (lo N)] 24) = x1 at *
    generalize w1.heap.size = B1 at *
    clear S hb1 a0 a1
    go_upto_region 5 with (go_at_call 25; refine (K2.out _).mono ?_; rintro e w2 ⟨rfl, hb2⟩)
    have S2 := (S1.next hb2).box N
    generalize w2.alloc (.cells #[.int .u64 (hi N), .int .u64 (lo N)] 24) = x2 at *
    generalize w2.heap.size = B2 at *
    clear S1 hb2
    obtain ⟨m0, m1, n0, n1, a0, a1, _⟩ := S2.lie
    clear K1 K2
    go_region_held3 (fun w' => w'.cell? ⟨w.heap.size, 0, none⟩ = some (.int .u64 (hi a)) ∧ w'.cell? ⟨w.heap.size, 1, none⟩ = some (.int .u64 (lo a)) ∧ w'.cell? ⟨B1, 0, none⟩ = some (.int .u64 (hi N)) ∧ w'.cell? ⟨B1, 1, none⟩ = some (.int .u64 (lo N)) ∧ w'.cell? ⟨B2, 0, none⟩ = some (.int .u64 (hi N)) ∧ w'.cell? ⟨B2, 1, none⟩ = some (.int .u64 (lo N)))
      ((refine ⟨?_, ?_, ?_, ?_, ?_, ?_⟩ <;> (repeat (first | with_reducible exact a0 | with_reducible exact a1 | with_reducible exact n0 | with_reducible exact n1 | with_reducible exact m0 | with_reducible exact m1 | with_reducible refine keep_drew ?_ | with_reducible refine keep_cell (by assumption) ?_))))
      (first
        | (go_at_call 26; refine (K3.out _).mono ?_; rintro e z1 ⟨rfl, hz1⟩)
        | (go_at_call 27; refine (K4.out _).mono ?_; rintro e z2 ⟨rfl, hz2⟩)
        | (go_at_call 23; refine (awake_any _).mono ?_; rintro e z3 ⟨rfl, hz3⟩))
    all_goals go_wp2_with fail
    all_goals go_light
    go_ret
    exact ⟨rfl, below_step (below_step (below_step S2.bl.drew hz1) hz2) hz3⟩

set_option maxRecDepth 100000 in
theorem lifted (os : Os) (started : os.Started) (H : Type) (enc : TypeId × Value → H) :
    ReturnsInHanded {} Try.checked os 4 .any (Rows.wideTextsSpec.pre6 enc Try.prog Try.f4 Rows.wideTextsRow.domain false) (Rows.wideTextsSpec.post enc Try.prog Try.f4 false true false false) := by
  refine returnsInHanded_of_change (C := Try.checked) own started (by kernel_rfl) Try.func4
    (ChangeSpec.witness6 (enc := enc) (C := Try.checked) false ⟨#[], #[.agg #[.int .u64 0, .int .u64 0], .string ⟨#[]⟩], []⟩ 8 (by kernel_rfl) (by kernel_rfl) (by kernel_rfl) (by kernel_rfl)) ?_
  intro W base args ds gs before hval0 hW hcnd _
  have hval : ∀ (j : Nat) t v, Try.f4.params[j]? = some t → args[j]? = some v → Value.okWide Try.prog W .any base t v := hval0
  have hW' := hW
  obtain ⟨p, q, hA0, hV, rfl, hfz, hnd⟩ := hW
  have hA : DataW.TrodAll enc Try.prog W 0 (fun _ => true) true Try.f4.params.toList args.toList ds p := hA0
  rw [Try.params4] at hA hval
  obtain ⟨v0, v1, d0, d1, p0, p1, rfl, rfl, rfl, h0, h1⟩ := trodAll_two hA
  obtain ⟨rfl, rfl⟩ := trodVars_none hV
  obtain ⟨a, ha, rfl, rfl, rfl, s0⟩ := open_num (hval 0 24 v0 rfl rfl) h0
  obtain ⟨s, rfl, rfl, rfl, hs⟩ := Go.ChangeMaps.open_string Try.underlying9 (hval 1 9 v1 rfl rfl) h1
  clear hA0 hval0
  simp only [List.append_nil] at hW'
  refine (walk a ha s hs W).mono fun e W' ⟨he, hbe⟩ => ?_
  subst he
  exact ⟨_, rfl, post_plain hW' (fun _ _ _ => trodAll_mk1 (shut_bool Try.underlying4 _)) (fun sp => trodAll_mk2 (s0 _ _) (Go.ChangeMaps.shut_string Try.underlying9 hs)) (fun _ => rfl) hbe⟩

theorem proved : Rows.WideTextsSaid :=
  OpenClaim.holds_of_wide 4 Try.f4 rfl rfl rfl rfl rfl rfl rfl ⟨rfl, rfl, rfl, rfl, rfl⟩ rfl rfl rfl rfl rfl (by kernel_rfl) Try.func4 (by kernel_rfl)
    (of_decide_eq_true (by kernel_rfl)) (by unfold Func.isWrapper; first | (rw [if_pos (by decide +kernel)]; kernel_rfl) | (rw [if_neg (by decide +kernel)]; exact ⟨rfl, rfl⟩))
    (fun os started H enc _ => lifted os started H enc)
#print axioms proved
end Go.Proofs.Ytgafejolijjiiaa.wideTexts
