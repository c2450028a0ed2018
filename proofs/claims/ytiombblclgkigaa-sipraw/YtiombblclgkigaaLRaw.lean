/- For every hash that goes on and every text the law SipRaw answers true: of one that may not be, what is written leaves it, and there is no hash; of one that may, nothing that is written leaves it, and parts make the whole. No condition. -/
import Derived.Test.YtiombblclgkigaaSAW
import Derived.Test.YtiombblclgkigaaSLD
import Derived.Test.YtiombblclgkigaaSO
import Derived.Test.YtiombblclgkigaaSQ
namespace Go.Proofs.Ytiombblclgkigaa.sipRaw
open Go.ChangeShapes Go.WideShapes Go.ChangeAt Go.RowKit
open Go.Proofs.Ytiombblclgkigaa
set_option linter.unusedVariables false
set_option linter.unusedSimpArgs false

set_option maxHeartbeats 4000000 in
set_option maxRecDepth 100000 in
/-- One that may not be. -/
theorem bad (a0 a1 a2 a3 : BitVec 64) (t : ByteArray) (n : Int) (s : ByteArray) (b1 : ¬ (100 : Int) < t.size) (b2 : ¬ (100 : Int) < s.size) (b3 : ¬ (1099511627776 : Int) < n) (hk : Hs.ok ⟨⟨a0, a1, a2, a3⟩, t, n⟩ = false)
    (w : World) : Calls Try.prog 5 #[.agg #[.int .u64 (I a0), .int .u64 (I a1), .int .u64 (I a2), .int .u64 (I a3), .string t, .int .i64 n], .string s] w fun e w' => e = .returned (.bool true) ∧ Below w.heap.size w w' := by
  have KW := Lib.hid (write_no ⟨⟨a0, a1, a2, a3⟩, t, n⟩ hk s)
  have KD := Lib.hid (done_no ⟨⟨a0, a1, a2, a3⟩, t, n⟩ hk)
  have heq : ∀ W : World, (Op.equalIn 9999 29 (.agg #[.int .u64 (I a0), .int .u64 (I a1), .int .u64 (I a2), .int .u64 (I a3)]) (.agg #[.int .u64 (I a0), .int .u64 (I a1), .int .u64 (I a2), .int .u64 (I a3)])).run Try.prog W = .ok true W := fun W => by
    have := eq4 9997 (I a0) (I a1) (I a2) (I a3) (I a0) (I a1) (I a2) (I a3) W
    simpa using this
  have hor : n < 0 ∨ (0 ≤ n ∧ ¬ (t.size : Int) = n % 8) := by
    by_cases h0 : n < 0
    · exact Or.inl h0
    · refine Or.inr ⟨by omega, fun h => ?_⟩
      have : Hs.ok ⟨⟨a0, a1, a2, a3⟩, t, n⟩ = true := Hs.ok_of (by show (0 : Int) ≤ n; omega) h
      rw [hk] at this
      cases this
  clear hk
  rcases hor with h0 | ⟨h0, h1⟩
  rotate_left
  have h2 : ((t.size : Int) != n % 8) = true := by simpa using h1
  have h3 : ((t.size : Int) == n % 8) = false := by simpa using h1
  rotate_left
  all_goals
    go_enter Try.func5, Try.ntmps5
    go_wp2_with fail
    refine (KW.out _).mono ?_
    rintro e W1 ⟨rfl, B⟩
    have M := (One.new w #[.int .u64 (I a0), .int .u64 (I a1), .int .u64 (I a2), .int .u64 (I a3), .string t, .int .i64 n] 31).next B
    clear B
    obtain ⟨g, hg⟩ : ∃ g, g = w.heap.size := ⟨_, rfl⟩
    rw [← hg] at M
    rw [← hg]
    clear hg
    go_upto_region 4 with fail
    have N := One.new W1 #[.int .u64 (I a0), .int .u64 (I a1), .int .u64 (I a2), .int .u64 (I a3), .string t, .int .i64 n] 31
    replace M := M.next N.bl
    generalize W1.alloc (.cells #[.int .u64 (I a0), .int .u64 (I a1), .int .u64 (I a2), .int .u64 (I a3), .string t, .int .i64 n] 31) = W2 at *
    obtain ⟨b, hb⟩ : ∃ b, b = W1.heap.size := ⟨_, rfl⟩
    rw [← hb] at N
    rw [← hb]
    clear hb
    obtain ⟨c0, c1, c2, c3, c4, c5⟩ := M.bg.six
    obtain ⟨d0, d1, d2, d3, d4, d5⟩ := N.bg.six
    go_wp2_with fail
    refine (KD.out _).mono ?_
    rintro e W3 ⟨rfl, B⟩
    replace M := M.next B
    clear B
    go_wp2_with fail
    refine (awake_any _).mono ?_
    rintro e W4 ⟨rfl, B⟩
    replace M := M.next B
    clear B
    go_wp2_with fail
    go_ret
    exact ⟨rfl, M.bl⟩

set_option maxHeartbeats 4000000 in
set_option maxRecDepth 100000 in
/-- One that may be. -/
theorem good (a0 a1 a2 a3 : BitVec 64) (t : ByteArray) (n : Int) (s : ByteArray) (b1 : ¬ (100 : Int) < t.size) (b2 : ¬ (100 : Int) < s.size) (b3 : ¬ (1099511627776 : Int) < n) (hk : Hs.ok ⟨⟨a0, a1, a2, a3⟩, t, n⟩ = true)
    (w : World) : Calls Try.prog 5 #[.agg #[.int .u64 (I a0), .int .u64 (I a1), .int .u64 (I a2), .int .u64 (I a3), .string t, .int .i64 n], .string s] w fun e w' => e = .returned (.bool true) ∧ Below w.heap.size w w' := by
  have n0 : 0 ≤ n := Hs.ok_n hk
  have n8 : (t.size : Int) = n % 8 := Hs.ok_t hk
  obtain ⟨k, hkk⟩ : ∃ k, k = s.size / 2 := ⟨_, rfl⟩
  have s1 : (s.extract 0 k).size ≤ 100 := by rw [← L_len, L_take, List.length_take, L_len]; omega
  have s2 : (s.extract k s.size).size ≤ 100 := by rw [← L_len, L_drop, List.length_drop, L_len]; omega
  have KW := Lib.hid (write_yes ⟨⟨a0, a1, a2, a3⟩, t, n⟩ hk s (by omega) (by show n + _ < _; omega))
  have KE := Lib.hid (write_yes ⟨⟨a0, a1, a2, a3⟩, t, n⟩ hk ⟨#[]⟩ (by decide) (by show n + ((0 : Nat) : Int) < _; omega))
  rw [Hs.wr_none hk] at KE
  have KA := Lib.hid (write_yes ⟨⟨a0, a1, a2, a3⟩, t, n⟩ hk (s.extract 0 k) (by omega) (by show n + _ < _; omega))
  have KB := Lib.hid (write_yes _ (Hs.wr_ok hk (s.extract 0 k)) (s.extract k s.size) (by omega) (by show n + _ + _ < _; omega))
  have es : s.extract 0 k ++ s.extract k s.size = s := by
    rw [← bs_L (s.extract 0 k ++ s.extract k s.size), L_app, L_take, L_drop, List.take_append_drop, bs_L]
  rw [Hs.wr_wr, es] at KB
  have KD := Lib.hid (done_yes _ (Hs.wr_ok hk s) (by show n + _ < _; omega))
  have hl : ((Hs.wr ⟨⟨a0, a1, a2, a3⟩, t, n⟩ s).t.size : Int) = (n + s.size) % 8 := Hs.ok_t (Hs.wr_ok hk s)
  generalize (Hs.wr ⟨⟨a0, a1, a2, a3⟩, t, n⟩ s).fin = F at *
  obtain ⟨⟨⟨x0, x1, x2, x3⟩, t1, n1⟩, h1⟩ : ∃ h, Hid (h = Hs.wr ⟨⟨a0, a1, a2, a3⟩, t, n⟩ s) := ⟨_, Lib.hid rfl⟩
  have en : n1 = n + s.size := congrArg Hs.n h1.out
  rw [← h1.out] at KW KB KD hl
  clear h1
  subst en
  generalize Hs.wr ⟨⟨a0, a1, a2, a3⟩, t, n⟩ (s.extract 0 k) = h2 at *
  obtain ⟨⟨y0, y1, y2, y3⟩, t2, n2⟩ := h2
  simp only at hl
  have heq : ∀ W : World, (Op.equalIn 9999 29 (.agg #[.int .u64 (I a0), .int .u64 (I a1), .int .u64 (I a2), .int .u64 (I a3)]) (.agg #[.int .u64 (I a0), .int .u64 (I a1), .int .u64 (I a2), .int .u64 (I a3)])).run Try.prog W = .ok true W := fun W => by
    have := eq4 9997 (I a0) (I a1) (I a2) (I a3) (I a0) (I a1) (I a2) (I a3) W
    simpa using this
  have wn : IntKind.i64.wrap (n + s.size) = n + s.size := by rw [IntKind.wrap_i64]; omega
  have m0 : ¬ n < 0 := by omega
  have HL := Lib.hid hl
  have n9 : ((t.size : Int) != n % 8) = false := by simpa using n8
  have n7 : ((t.size : Int) == n % 8) = true := by simpa using n8
  clear hk es s1 s2 hl n8
  go_enter Try.func5, Try.ntmps5
  go_wp2_with fail
  refine (KW.out _).mono ?_
  rintro e W1 ⟨rfl, B⟩
  have M := (One.new w #[.int .u64 (I a0), .int .u64 (I a1), .int .u64 (I a2), .int .u64 (I a3), .string t, .int .i64 n] 31).next B
  clear B
  obtain ⟨g, hg⟩ : ∃ g, g = w.heap.size := ⟨_, rfl⟩
  rw [← hg] at M
  rw [← hg]
  clear hg
  go_upto_region 4 with fail
  have N := One.new W1 #[.int .u64 (I x0), .int .u64 (I x1), .int .u64 (I x2), .int .u64 (I x3), .string t1, .int .i64 (n + s.size)] 31
  replace M := M.next N.bl
  generalize W1.alloc (.cells #[.int .u64 (I x0), .int .u64 (I x1), .int .u64 (I x2), .int .u64 (I x3), .string t1, .int .i64 (n + s.size)] 31) = W2 at *
  obtain ⟨b, hb⟩ : ∃ b, b = W1.heap.size := ⟨_, rfl⟩
  rw [← hb] at N
  rw [← hb]
  clear hb
  obtain ⟨c0, c1, c2, c3, c4, c5⟩ := M.bg.six
  obtain ⟨d0, d1, d2, d3, d4, d5⟩ := N.bg.six
  go_upto_region 6 with fail
  have hn0 : 0 ≤ n + (s.size : Int) := by omega
  have hl : ((t1.size : Int) == (n + s.size).tmod 8) = true := by rw [Int.tmod_eq_emod_of_nonneg hn0]; simpa using HL.out
  have ed : (s.size : Int).tdiv 2 = (s.size : Int) / 2 := Int.tdiv_eq_ediv_of_nonneg (by omega)
  have ek : (s.size : Int) / 2 = (k : Int) := by omega
  have ek2 : (s.size : Int).tdiv 2 = (k : Int) := ed.trans ek
  have k0 : (0 : Int) ≤ (k : Int) := by omega
  have k1 : (k : Int) ≤ s.size := by omega
  have wk : IntKind.i64.wrap (k : Int) = (k : Int) := by rw [IntKind.wrap_i64]; omega
  clear ed hkk
  go_region_held3 (fun w' => (w'.cell? ⟨g, 0, none⟩ = some (.int .u64 (I a0)) ∧ w'.cell? ⟨g, 1, none⟩ = some (.int .u64 (I a1)) ∧ w'.cell? ⟨g, 2, none⟩ = some (.int .u64 (I a2)) ∧ w'.cell? ⟨g, 3, none⟩ = some (.int .u64 (I a3)) ∧ w'.cell? ⟨g, 4, none⟩ = some (.string t) ∧ w'.cell? ⟨g, 5, none⟩ = some (.int .i64 n)) ∧ w'.cell? ⟨b, 0, none⟩ = some (.int .u64 (I x0)) ∧ w'.cell? ⟨b, 1, none⟩ = some (.int .u64 (I x1)) ∧ w'.cell? ⟨b, 2, none⟩ = some (.int .u64 (I x2)) ∧ w'.cell? ⟨b, 3, none⟩ = some (.int .u64 (I x3)) ∧ w'.cell? ⟨b, 4, none⟩ = some (.string t1) ∧ w'.cell? ⟨b, 5, none⟩ = some (.int .i64 (n + s.size)))
    ((refine ⟨⟨?_, ?_, ?_, ?_, ?_, ?_⟩, ?_, ?_, ?_, ?_, ?_, ?_⟩ <;> (repeat (first | with_reducible exact c0 | with_reducible exact c1 | with_reducible exact c2 | with_reducible exact c3 | with_reducible exact c4 | with_reducible exact c5 | with_reducible exact d0 | with_reducible exact d1 | with_reducible exact d2 | with_reducible exact d3 | with_reducible exact d4 | with_reducible exact d5 | with_reducible refine keep_drew ?_ | with_reducible refine keep_cell (by assumption) ?_))))
    (first
      | (go_at_call 12; (with_reducible refine (KE.out _).mono ?_); rintro e z1 ⟨rfl, hz1⟩)
      | (go_at_call 14; (with_reducible refine (KD.out _).mono ?_); rintro e z2 ⟨rfl, hz2⟩)
      | (go_at_call 12; (with_reducible refine (KA.out _).mono ?_); rintro e z3 ⟨rfl, hz3⟩)
      | (go_at_call 12; (with_reducible refine (KB.out _).mono ?_); rintro e z4 ⟨rfl, hz4⟩)
      | (go_at_call 8; refine (awake_any _).mono ?_; rintro e z9 ⟨rfl, hz9⟩))
  all_goals go_wp2_with fail
  all_goals go_light
  go_ret
  refine ⟨rfl, ?_⟩
  repeat (first | with_reducible exact M.drew.bl | refine below_step ?_ (by assumption))

set_option maxHeartbeats 4000000 in
set_option maxRecDepth 100000 in
theorem walk (h : Hs) (s : ByteArray) (ht : h.t.size ≤ maxLen) (hs : s.size ≤ maxLen) (w : World) : Calls Try.prog 5 #[h.val, .string s] w fun e w' => e = .returned (.bool true) ∧ Below w.heap.size w w' := by
  unfold maxLen at ht hs
  obtain ⟨⟨a0, a1, a2, a3⟩, t, n⟩ := h
  simp only at ht
  by_cases b1 : (100 : Int) < t.size
  · skip
    go_enter Try.func5, Try.ntmps5
    go_wp2_with fail
    refine (awake_any _).mono ?_
    rintro e y ⟨rfl, hy⟩
    go_wp2_with fail
    go_ret
    exact ⟨rfl, below_step ((Below.refl _ _).alloc (Nat.le_refl _) _) hy⟩

  by_cases b2 : (100 : Int) < s.size
  · skip
    go_enter Try.func5, Try.ntmps5
    go_wp2_with fail
    refine (awake_any _).mono ?_
    rintro e y ⟨rfl, hy⟩
    go_wp2_with fail
    go_ret
    exact ⟨rfl, below_step ((Below.refl _ _).alloc (Nat.le_refl _) _) hy⟩

  by_cases b3 : (1099511627776 : Int) < n
  · skip
    go_enter Try.func5, Try.ntmps5
    go_wp2_with fail
    refine (awake_any _).mono ?_
    rintro e y ⟨rfl, hy⟩
    go_wp2_with fail
    go_ret
    exact ⟨rfl, below_step ((Below.refl _ _).alloc (Nat.le_refl _) _) hy⟩

  cases hk : Hs.ok ⟨⟨a0, a1, a2, a3⟩, t, n⟩ with
  | false => exact bad a0 a1 a2 a3 t n s b1 b2 b3 hk w
  | true => exact good a0 a1 a2 a3 t n s b1 b2 b3 hk w

set_option maxRecDepth 100000 in
theorem lifted (os : Os) (started : os.Started) (H : Type) (enc : TypeId × Value → H) :
    ReturnsInHanded {} Try.checked os 5 .any (Rows.sipRawSpec.pre6 enc Try.prog Try.f5 Rows.sipRawRow.domain false) (Rows.sipRawSpec.post enc Try.prog Try.f5 false true false false) := by
  refine returnsInHanded_of_change (C := Try.checked) own started (by kernel_rfl) Try.func5
    (ChangeSpec.witness6 (enc := enc) (C := Try.checked) false ⟨#[], #[.agg #[.int .u64 0, .int .u64 0, .int .u64 0, .int .u64 0, .string ⟨#[]⟩, .int .i64 0], .string ⟨#[]⟩], []⟩ 8 (by kernel_rfl) (by kernel_rfl) (by kernel_rfl) (by kernel_rfl)) ?_
  intro W base args ds gs before hval0 hW hcnd _
  have hval : ∀ (j : Nat) t v, Try.f5.params[j]? = some t → args[j]? = some v → Value.okWide Try.prog W .any base t v := hval0
  have hW' := hW
  obtain ⟨p, q, hA0, hV, rfl, _, _⟩ := hW
  have hA : DataW.TrodAll enc Try.prog W 0 (fun _ => true) true Try.f5.params.toList args.toList ds p := hA0
  rw [Try.params5] at hA hval
  obtain ⟨v0, v1, d0, d1, p0, p1, rfl, rfl, rfl, h0t, h1t⟩ := trodAll_two hA
  obtain ⟨rfl, rfl⟩ := trodVars_none hV
  obtain ⟨u0, rfl, ht0, hn0, hm0⟩ := open_hash (hval 0 31 v0 rfl rfl) h0t
  obtain ⟨s1, rfl, -, -, hs1⟩ := Go.ChangeMaps.open_string Try.underlying9 (hval 1 9 v1 rfl rfl) h1t
  clear hA0 hval0
  simp only [List.append_nil] at hW'
  have hlt : ∀ x ∈ p0 ++ p1, x.block < W.heap.size := fun x hx => by simpa using hW'.lt x (by simpa using hx)
  refine (walk u0 s1 ht0 hs1 W).mono fun e W' ⟨he, hbl⟩ => ?_
  subst he
  refine ⟨_, rfl, post_args hW' (fun _ _ _ => trodAll_mk1 (shut_bool Try.underlying4 _)) ?_ (fun _ => rfl) hbl⟩
  have t0 := Below.trod laidOut readable_hash typed_hash h0t hbl (fun x hx => hlt x (List.mem_append_left _ hx))
  have t1 := Below.trod laidOut readable_str typed_str h1t hbl (fun x hx => hlt x (List.mem_append_right _ hx))
  exact trodAll_mk2 t0 t1

theorem proved : Rows.SipRawSaid :=
  OpenClaim.holds_of_wide 5 Try.f5 rfl rfl rfl rfl rfl rfl rfl ⟨rfl, rfl, rfl, rfl, rfl⟩ rfl rfl rfl rfl rfl (by kernel_rfl) Try.func5 (by kernel_rfl)
    (of_decide_eq_true (by kernel_rfl)) (by unfold Func.isWrapper; first | (rw [if_pos (by decide +kernel)]; kernel_rfl) | (rw [if_neg (by decide +kernel)]; exact ⟨rfl, rfl⟩))
    (fun os started H enc _ => lifted os started H enc)
#print axioms proved
end Go.Proofs.Ytiombblclgkigaa.sipRaw
