/- For every seed and every text the law SipGoes answers true: what is written twice is the hash of the text twice, and nothing that is written changes none. No condition. -/
import Derived.Test.YtiombblclgkigaaSAW
import Derived.Test.YtiombblclgkigaaSLD
import Derived.Test.YtiombblclgkigaaSO
import Derived.Test.YtiombblclgkigaaSQ
namespace Go.Proofs.Ytiombblclgkigaa.sipGoes
open Go.ChangeShapes Go.WideShapes Go.ChangeAt Go.RowKit
open Go.Proofs.Ytiombblclgkigaa
set_option linter.unusedVariables false
set_option linter.unusedSimpArgs false

set_option maxHeartbeats 4000000 in
set_option maxRecDepth 100000 in
theorem walk (p q : BitVec 64) (s : ByteArray) (hs : s.size ≤ maxLen) (w : World) : Calls Try.prog 6 #[seed p q, .string s] w fun e w' => e = .returned (.bool true) ∧ Below w.heap.size w w' := by
  unfold maxLen at hs
  by_cases big : 200 < s.size
  · have b1 : (200 : Int) < s.size := by omega
    go_enter Try.func6, Try.ntmps6
    go_wp2_with fail
    refine (awake_any _).mono ?_
    rintro e y ⟨rfl, hy⟩
    go_wp2_with fail
    go_ret
    exact ⟨rfl, below_step ((Below.refl _ _).alloc (Nat.le_refl _) _) hy⟩
  · have b1 : ¬ (200 : Int) < s.size := by omega
    have LL := L_len s
    have KS0 := Lib.hid (sum_any p q ⟨#[]⟩ (by decide))
    have KS1 := Lib.hid (sum_any p q s (by omega))
    have KS2 := Lib.hid (sum_any p q (s ++ s) (by rw [ByteArray.size_append]; omega))
    rw [L_app] at KS2
    rw [show L ⟨#[]⟩ = [] from rfl] at KS0
    have KN := Lib.hid (new_any p q)
    rw [← Hs.of_nil] at KN
    have KW0 := Lib.hid (write_yes _ (Hs.of_ok p q []) s (by omega) (by show (0 : Int) + _ < _; omega))
    have KD0 := Lib.hid (done_yes _ (Hs.of_ok p q []) (by show (0 : Int) < _; omega))
    have KD1 := Lib.hid (done_yes _ (Hs.of_ok p q (L s)) (by show ((L s).length : Int) < _; omega))
    have KW1 := Lib.hid (write_yes _ (Hs.of_ok p q (L s)) s (by omega) (by show ((L s).length : Int) + _ < _; omega))
    have KE1 := Lib.hid (write_yes _ (Hs.of_ok p q (L s)) ⟨#[]⟩ (by decide) (by show ((L s).length : Int) + ((0 : Nat) : Int) < _; omega))
    have KD2 := Lib.hid (done_yes _ (Hs.of_ok p q (L s ++ L s)) (by show ((L s ++ L s).length : Int) < _; rw [List.length_append]; omega))
    rw [Hs.of_wr, List.nil_append] at KW0
    rw [Hs.of_wr] at KW1
    rw [Hs.wr_none (Hs.of_ok p q (L s))] at KE1
    rw [Hs.of_fin] at KD0 KD1 KD2
    generalize Hs.of p q [] = h0 at *
    generalize Hs.of p q (L s) = h1 at *
    generalize Hs.of p q (L s ++ L s) = h2 at *
    generalize hash p q [] = H0 at *
    generalize hash p q (L s) = H1 at *
    generalize hash p q (L s ++ L s) = H2 at *
    obtain ⟨⟨a0, a1, a2, a3⟩, t0, n0⟩ := h0
    obtain ⟨⟨x0, x1, x2, x3⟩, t1, n1⟩ := h1
    obtain ⟨⟨y0, y1, y2, y3⟩, t2, n2⟩ := h2
    have hadd : ∀ W : World, (Op.stringOp .add s s).run Try.prog W = .ok (.string (s ++ s)) W := fun W => run_string_add_sum W s s (by omega)
    have hle : ¬ (9223372036854775807 < s.size + s.size) := by omega
    have heq : ∀ W : World, (Op.equalIn 9999 29 (.agg #[.int .u64 (I x0), .int .u64 (I x1), .int .u64 (I x2), .int .u64 (I x3)]) (.agg #[.int .u64 (I x0), .int .u64 (I x1), .int .u64 (I x2), .int .u64 (I x3)])).run Try.prog W = .ok true W := fun W => by
      have := eq4 9997 (I x0) (I x1) (I x2) (I x3) (I x0) (I x1) (I x2) (I x3) W
      simpa using this
    clear hs big LL
    go_enter Try.func6, Try.ntmps6
    go_wp2_with fail
    refine (KN.out _).mono ?_
    rintro e W1 ⟨rfl, B⟩
    have M := (One.new w #[.int .u64 (I p), .int .u64 (I q)] 24).next B
    clear B
    obtain ⟨g, hg⟩ : ∃ g, g = w.heap.size := ⟨_, rfl⟩
    rw [← hg] at M
    rw [← hg]
    clear hg
    go_wp2_with fail
    refine (KW0.out _).mono ?_
    rintro e W2 ⟨rfl, B⟩
    replace M := M.next B
    clear B
    go_upto_region 4 with fail
    have N := One.new W2 #[.int .u64 (I x0), .int .u64 (I x1), .int .u64 (I x2), .int .u64 (I x3), .string t1, .int .i64 n1] 31
    replace M := M.next N.bl
    generalize W2.alloc (.cells #[.int .u64 (I x0), .int .u64 (I x1), .int .u64 (I x2), .int .u64 (I x3), .string t1, .int .i64 n1] 31) = W3 at *
    obtain ⟨b, hb⟩ : ∃ b, b = W2.heap.size := ⟨_, rfl⟩
    rw [← hb] at N
    rw [← hb]
    clear hb
    obtain ⟨c0, c1⟩ := M.bg.two
    obtain ⟨d0, d1, d2, d3, d4, d5⟩ := N.bg.six
    go_region_held3 (fun w' => (w'.cell? ⟨g, 0, none⟩ = some (.int .u64 (I p)) ∧ w'.cell? ⟨g, 1, none⟩ = some (.int .u64 (I q))) ∧ w'.cell? ⟨b, 0, none⟩ = some (.int .u64 (I x0)) ∧ w'.cell? ⟨b, 1, none⟩ = some (.int .u64 (I x1)) ∧ w'.cell? ⟨b, 2, none⟩ = some (.int .u64 (I x2)) ∧ w'.cell? ⟨b, 3, none⟩ = some (.int .u64 (I x3)) ∧ w'.cell? ⟨b, 4, none⟩ = some (.string t1) ∧ w'.cell? ⟨b, 5, none⟩ = some (.int .i64 n1))
      ((refine ⟨⟨?_, ?_⟩, ?_, ?_, ?_, ?_, ?_, ?_⟩ <;> (repeat (first | with_reducible exact c0 | with_reducible exact c1 | with_reducible exact d0 | with_reducible exact d1 | with_reducible exact d2 | with_reducible exact d3 | with_reducible exact d4 | with_reducible exact d5 | with_reducible refine keep_drew ?_ | with_reducible refine keep_cell (by assumption) ?_))))
      (first
        | (go_at_call 14; (with_reducible refine (KD1.out _).mono ?_); rintro e z1 ⟨rfl, hz1⟩)
        | (go_at_call 9; (with_reducible refine (KS1.out _).mono ?_); rintro e z2 ⟨rfl, hz2⟩)
        | (go_at_call 12; (with_reducible refine (KW1.out _).mono ?_); rintro e z3 ⟨rfl, hz3⟩)
        | (go_at_call 14; (with_reducible refine (KD2.out _).mono ?_); rintro e z4 ⟨rfl, hz4⟩)
        | (go_at_call 9; (with_reducible refine (KS2.out _).mono ?_); rintro e z5 ⟨rfl, hz5⟩)
        | (go_at_call 12; (with_reducible refine (KE1.out _).mono ?_); rintro e z6 ⟨rfl, hz6⟩)
        | (go_at_call 11; (with_reducible refine (KN.out _).mono ?_); rintro e z7 ⟨rfl, hz7⟩)
        | (go_at_call 14; (with_reducible refine (KD0.out _).mono ?_); rintro e z8 ⟨rfl, hz8⟩)
        | (go_at_call 9; (with_reducible refine (KS0.out _).mono ?_); rintro e za ⟨rfl, hza⟩)
        | (go_at_call 8; refine (awake_any _).mono ?_; rintro e z9 ⟨rfl, hz9⟩))
    all_goals go_wp2_with fail
    all_goals go_light
    go_ret
    refine ⟨rfl, ?_⟩
    repeat (first | with_reducible exact M.drew.bl | refine below_step ?_ (by assumption))

set_option maxRecDepth 100000 in
theorem lifted (os : Os) (started : os.Started) (H : Type) (enc : TypeId × Value → H) :
    ReturnsInHanded {} Try.checked os 6 .any (Rows.sipGoesSpec.pre6 enc Try.prog Try.f6 Rows.sipGoesRow.domain false) (Rows.sipGoesSpec.post enc Try.prog Try.f6 false true false false) := by
  refine returnsInHanded_of_change (C := Try.checked) own started (by kernel_rfl) Try.func6
    (ChangeSpec.witness6 (enc := enc) (C := Try.checked) false ⟨#[], #[.agg #[.int .u64 0, .int .u64 0], .string ⟨#[]⟩], []⟩ 8 (by kernel_rfl) (by kernel_rfl) (by kernel_rfl) (by kernel_rfl)) ?_
  intro W base args ds gs before hval0 hW hcnd _
  have hval : ∀ (j : Nat) t v, Try.f6.params[j]? = some t → args[j]? = some v → Value.okWide Try.prog W .any base t v := hval0
  have hW' := hW
  obtain ⟨p, q, hA0, hV, rfl, _, _⟩ := hW
  have hA : DataW.TrodAll enc Try.prog W 0 (fun _ => true) true Try.f6.params.toList args.toList ds p := hA0
  rw [Try.params6] at hA hval
  obtain ⟨v0, v1, d0, d1, p0, p1, rfl, rfl, rfl, h0t, h1t⟩ := trodAll_two hA
  obtain ⟨rfl, rfl⟩ := trodVars_none hV
  obtain ⟨a0, b0, rfl⟩ := open_seed (hval 0 24 v0 rfl rfl) h0t
  obtain ⟨s1, rfl, -, -, hs1⟩ := Go.ChangeMaps.open_string Try.underlying9 (hval 1 9 v1 rfl rfl) h1t
  clear hA0 hval0
  simp only [List.append_nil] at hW'
  have hlt : ∀ x ∈ p0 ++ p1, x.block < W.heap.size := fun x hx => by simpa using hW'.lt x (by simpa using hx)
  refine (walk a0 b0 s1 hs1 W).mono fun e W' ⟨he, hbl⟩ => ?_
  subst he
  refine ⟨_, rfl, post_args hW' (fun _ _ _ => trodAll_mk1 (shut_bool Try.underlying4 _)) ?_ (fun _ => rfl) hbl⟩
  have t0 := Below.trod laidOut readable_seed typed_seed h0t hbl (fun x hx => hlt x (List.mem_append_left _ hx))
  have t1 := Below.trod laidOut readable_str typed_str h1t hbl (fun x hx => hlt x (List.mem_append_right _ hx))
  exact trodAll_mk2 t0 t1

theorem proved : Rows.SipGoesSaid :=
  OpenClaim.holds_of_wide 6 Try.f6 rfl rfl rfl rfl rfl rfl rfl ⟨rfl, rfl, rfl, rfl, rfl⟩ rfl rfl rfl rfl rfl (by kernel_rfl) Try.func6 (by kernel_rfl)
    (of_decide_eq_true (by kernel_rfl)) (by unfold Func.isWrapper; first | (rw [if_pos (by decide +kernel)]; kernel_rfl) | (rw [if_neg (by decide +kernel)]; exact ⟨rfl, rfl⟩))
    (fun os started H enc _ => lifted os started H enc)
#print axioms proved
end Go.Proofs.Ytiombblclgkigaa.sipGoes
