/- For any sum, any text and any byte the law CrcTells answers true: the sum of the text behind that sum, its own sum, and the number of the table are what the document says. No condition. -/
import Derived.Test.YtkghlijmlifmjaaCO
import Derived.Test.YtkghlijmlifmjaaCRA
namespace Go.Proofs.Ytkghlijmlifmjaa.crcTells
open Go.ChangeShapes Go.WideShapes Go.ChangeAt Go.RowKit
open Go.Proofs.Ytkghlijmlifmjaa
set_option linter.unusedVariables false
set_option linter.unusedSimpArgs false

set_option maxHeartbeats 4000000 in
set_option maxRecDepth 100000 in
theorem walk (x : BitVec 32) (s : ByteArray) (b : UInt8) (hs : s.size ≤ maxLen) (w : World) : Calls Try.prog 3 #[.int .u32 (J x), .string s, .int .u8 (b.toNat : Int)] w fun e w' => e = .returned (.bool true) ∧ Below w.heap.size w w' := by
  unfold maxLen at hs
  by_cases big : 600 < s.size
  · have b1 : (600 : Int) < s.size := by omega
    clear hs
    go_enter Try.func3, Try.ntmps3
    go_wp2_with fail
    refine (awake_any _).mono ?_
    rintro e y ⟨rfl, hy⟩
    go_wp2_with fail
    go_ret
    exact ⟨rfl, hy⟩
  · have b1 : ¬ (600 : Int) < s.size := by omega
    have K1 := Lib.hid (more_any x s (by omega))
    have K2 : Hid (∀ W, Calls Try.prog 11 #[.int .u32 (J x), .string s] W fun e w' => e = .returned (.int .u32 (J (crcMore x (L s)))) ∧ Below W.heap.size W w') := fun W => (refMore_any x s (by omega) W).mono fun e y ⟨h, k⟩ => ⟨h, by rw [← k]; exact Below.refl _ _⟩
    have K3 := Lib.hid (sum_any s (by omega))
    have K4 : Hid (∀ W, Calls Try.prog 11 #[.int .u32 0, .string s] W fun e w' => e = .returned (.int .u32 (J (crcSum (L s)))) ∧ Below W.heap.size W w') := fun W => by
      have := refMore_any 0#32 s (by omega) W
      rw [← kJ0, ← crcSum_eq] at this
      exact this.mono fun e y ⟨h, k⟩ => ⟨h, by rw [← k]; exact Below.refl _ _⟩
    have K5 := Lib.hid table_any
    have K6 : Hid (∀ W, Calls Try.prog 14 #[.int .i64 (IntKind.i64.wrap (b.toNat : Int))] W fun e w' => e = .returned (.int .u32 (J (tab b))) ∧ Below W.heap.size W w') := fun W => by
      have := refAt_any b W
      rw [← wrap64_8 b] at this
      exact this.mono fun e y ⟨h, k⟩ => ⟨h, by rw [← k]; exact Below.refl _ _⟩
    have K7 := Lib.hid awake_any
    have IX := index_tab .u8 b
    have hb : (b.toNat : Int) < 256 := by have := b.toNat_lt; omega
    generalize crcMore x (L s) = y1 at *
    generalize crcSum (L s) = y2 at *
    generalize tab b = y3 at *
    clear hs big
    go_enter Try.func3, Try.ntmps3
    go_upto_region 3 with fail
    go_region_held3 (fun w' => True) (exact trivial)
      (first
        | (go_at_call 10; (with_reducible refine (K1.out _).mono ?_); rintro e z1 ⟨rfl, hz1⟩)
        | (go_at_call 11; (with_reducible refine (K2.out _).mono ?_); rintro e z2 ⟨rfl, hz2⟩)
        | (go_at_call 11; (with_reducible refine (K4.out _).mono ?_); rintro e z4 ⟨rfl, hz4⟩)
        | (go_at_call 12; (with_reducible refine (K3.out _).mono ?_); rintro e z3 ⟨rfl, hz3⟩)
        | (go_at_call 13; (with_reducible refine (K5.out _).mono ?_); rintro e z5 ⟨rfl, hz5⟩)
        | (go_at_call 14; (with_reducible refine (K6.out _).mono ?_); rintro e z6 ⟨rfl, hz6⟩)
        | (go_at_call 9; (with_reducible refine (K7.out _).mono ?_); rintro e z7 ⟨rfl, hz7⟩))
    all_goals go_wp2_with fail
    all_goals go_light
    all_goals (go_ret; refine ⟨rfl, ?_⟩; repeat (first | with_reducible exact (Below.refl _ _).drew | with_reducible refine below_step ?_ (by assumption)))

set_option maxRecDepth 100000 in
theorem lifted (os : Os) (started : os.Started) (H : Type) (enc : TypeId × Value → H) :
    ReturnsInHanded {} Try.checked os 3 .any (Rows.crcTellsSpec.pre6 enc Try.prog Try.f3 Rows.crcTellsRow.domain false) (Rows.crcTellsSpec.post enc Try.prog Try.f3 false true false false) := by
  refine returnsInHanded_of_change (C := Try.checked) own started (by kernel_rfl) Try.func3
    (ChangeSpec.witness6 (enc := enc) (C := Try.checked) false ⟨#[], #[.int .u32 0, .string ⟨#[]⟩, .int .u8 0], []⟩ 8 (by kernel_rfl) (by kernel_rfl) (by kernel_rfl) (by kernel_rfl)) ?_
  intro W base args ds gs before hval0 hW hcnd _
  have hval : ∀ (j : Nat) t v, Try.f3.params[j]? = some t → args[j]? = some v → Value.okWide Try.prog W .any base t v := hval0
  have hW' := hW
  obtain ⟨p, q, hA0, hV, rfl, _, _⟩ := hW
  have hA : DataW.TrodAll enc Try.prog W 0 (fun _ => true) true Try.f3.params.toList args.toList ds p := hA0
  rw [Try.params3] at hA hval
  obtain ⟨v0, v1, v2, d0, d1, d2, p0, p1, p2, rfl, rfl, rfl, h0t, h1t, h2t⟩ := trodAll_three hA
  obtain ⟨rfl, rfl⟩ := trodVars_none hV
  obtain ⟨x0, rfl⟩ := open_u32 (hval 0 22 v0 rfl rfl) h0t
  obtain ⟨s1, rfl, -, -, hs1⟩ := Go.ChangeMaps.open_string Try.underlying9 (hval 1 9 v1 rfl rfl) h1t
  obtain ⟨b2, rfl⟩ := open_u8 (hval 2 5 v2 rfl rfl) h2t
  clear hA0 hval0
  simp only [List.append_nil] at hW'
  have hlt : ∀ x ∈ p0 ++ p1 ++ p2, x.block < W.heap.size := fun x hx => by simpa using hW'.lt x (by simpa using hx)
  refine (walk x0 s1 b2 hs1 W).mono fun e W' ⟨he, hbl⟩ => ?_
  subst he
  refine ⟨_, rfl, post_args hW' (fun _ _ _ => trodAll_mk1 (shut_bool Try.underlying4 _)) ?_ (fun _ => rfl) hbl⟩
  have t0 := Below.trod laidOut readable_u32 typed_u32 h0t hbl (fun x hx => hlt x (List.mem_append_left _ (List.mem_append_left _ hx)))
  have t1 := Below.trod laidOut readable_str typed_str h1t hbl (fun x hx => hlt x (List.mem_append_left _ (List.mem_append_right _ hx)))
  have t2 := Below.trod laidOut readable_u8 typed_u8 h2t hbl (fun x hx => hlt x (List.mem_append_right _ hx))
  exact (List.append_assoc p0 p1 p2) ▸ trodAll_mk3 t0 t1 t2

theorem proved : Rows.CrcTellsSaid :=
  OpenClaim.holds_of_wide 3 Try.f3 rfl rfl rfl rfl rfl rfl rfl ⟨rfl, rfl, rfl, rfl, rfl⟩ rfl rfl rfl rfl rfl (by kernel_rfl) Try.func3 (by kernel_rfl)
    (of_decide_eq_true (by kernel_rfl)) (by unfold Func.isWrapper; first | (rw [if_pos (by decide +kernel)]; kernel_rfl) | (rw [if_neg (by decide +kernel)]; exact ⟨rfl, rfl⟩))
    (fun os started H enc _ => lifted os started H enc)
#print axioms proved
end Go.Proofs.Ytkghlijmlifmjaa.crcTells
