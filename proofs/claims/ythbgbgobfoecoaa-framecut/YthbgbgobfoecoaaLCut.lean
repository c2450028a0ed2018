/- For any kind, payload and bytes behind the law FrameCut answers true: a frame that is cut off, or has bytes behind, is none. No condition. -/
import Derived.Test.YthbgbgobfoecoaaJ06
namespace Go.Proofs.Ythbgbgobfoecoaa.frameCut
open Go.ChangeShapes Go.WideShapes Go.ChangeAt Go.RowKit
open Go.Proofs.Ythbgbgobfoecoaa
set_option linter.unusedVariables false
set_option linter.unusedSimpArgs false

set_option maxHeartbeats 2000000 in
set_option maxRecDepth 100000 in
theorem walk (n : Nat) (hn : n < 256) (s m : ByteArray) (q : Nat) (hq : q < 65536) (w : World) : Calls Try.prog 6 #[.int .u8 (n : Int), .string s, .string m, .int .u16 (q : Int)] w fun e w' => e = .returned (.bool true) ∧ Below w.heap.size w w' := by
  have KF := Lib.hid awake9_any
  by_cases hs : s.size ≤ 300
  · have l3 : ¬ (300 : Int) < s.size := by omega
    by_cases hm : m.size ≤ 300
    · have l4 : ¬ (300 : Int) < m.size := by omega
      obtain ⟨r, hr⟩ : ∃ r, r = n % 8 := ⟨_, rfl⟩
      obtain ⟨k, hk⟩ : ∃ k, k = 1 + r := ⟨_, rfl⟩
      have e1 : (n : Int) % 8 = (r : Int) := by omega
      have e2 : Int.tmod (n : Int) 8 = (r : Int) := by rw [show (8 : Int) = ((8 : Nat) : Int) from rfl, ← Int.ofNat_tmod, hr]
      have w1 : IntKind.i64.wrap (r : Int) = r := by rw [IntKind.wrap_i64]; omega
      have w2 : IntKind.i64.wrap (1 + (r : Int)) = (k : Int) := by rw [IntKind.wrap_i64]; omega
      have KS := Lib.hid (fun W => seal_ok k (by omega) (by omega) s (by omega) W)
      have sl : (L s).length = s.size := L_len s
      have ts := fseal_len k (L s)
      have ep := enc_ten (show (L s).length < 18446744073709551616 by omega)
      have en := enc_pos (L s).length
      obtain ⟨c, hc⟩ : ∃ c, c = q % (fseal k (L s)).length := ⟨_, rfl⟩
      have cl : c < (fseal k (L s)).length := by rw [hc]; exact Nat.mod_lt _ (by omega)
      have O1 : opn (L ((bs (fseal k (L s))).extract 0 c)) = (0, [], 2) := by rw [L_take, L_bs]; exact opn_cut (by omega) (by omega) (by omega) cl
      have O2 : (L m = [] ∧ opn (L (bs (fseal k (L s)) ++ m)) = (k, L s, 0)) ∨ (L m ≠ [] ∧ opn (L (bs (fseal k (L s)) ++ m)) = (0, [], 2)) := by
        by_cases h : L m = []
        · exact Or.inl ⟨h, by rw [L_app, h, L_bs, List.append_nil]; exact opn_seal (by omega) (by omega) (by omega)⟩
        · exact Or.inr ⟨h, by rw [L_app, L_bs]; exact opn_more (by omega) (by omega) (by omega) h⟩
      rw [← bs_size] at ts cl hc
      obtain ⟨t, ht⟩ : ∃ t, t = bs (fseal k (L s)) := ⟨_, rfl⟩
      rw [← ht] at KS ts cl hc O1 O2
      rw [show (k : Int) = 1 + (r : Int) by omega] at KS
      have K1 := Lib.hid (fun W => open_any (t.extract 0 c) (by rw [ByteArray.size_extract]; omega) W)
      rw [O1] at K1
      have K2 := Lib.hid (fun W => open_any (t ++ m) (by rw [ByteArray.size_append]; omega) W)
      have a1 : ∀ W : World, (Op.stringOp .add t m).run Try.prog W = .ok (.string (t ++ m)) W := fun W => run_string_add_sum W _ _ (by omega)
      have a2 : ¬ (9223372036854775807 < t.size + m.size) := by omega
      have w3 : IntKind.i64.wrap (q : Int) = q := by rw [IntKind.wrap_i64]; omega
      have d1 : (q : Int) % (t.size : Int) = (c : Int) := by rw [hc]; rfl
      have d2 : Int.tmod (q : Int) (t.size : Int) = (c : Int) := by rw [← Int.ofNat_tmod, hc]
      have d3 : ¬ (t.size : Int) = 0 := by omega
      have d4 : ¬ (t.size : Int) < 11 := by omega
      have c0 : (0 : Int) ≤ c := by omega
      have c1 : (c : Int) ≤ (t.size : Int) := by omega
      have w4 : IntKind.i64.wrap (c : Int) = c := by rw [IntKind.wrap_i64]; omega
      have HM : Hid (L m = m.toList) := by unfold Hid; rw [ByteArray.toList_eq]
      clear hr ht hc sl ts ep en cl O1
      rcases O2 with ⟨hm0, O2⟩ | ⟨hm0, O2⟩
      · rw [O2] at K2
        rw [HM.out] at hm0
        have m1 : (m.toList == []) = true := by rw [hm0]; rfl
        have m2 : m.toList.isEmpty = true := by rw [hm0]; rfl
        clear O2 hm0
        go_enter Try.func6, Try.ntmps6
        go_wp2_with fail
        refine (KS.out _).mono ?_
        rintro e W1 ⟨rfl, B1⟩
        go_wp2_with fail
        refine (K1.out _).mono ?_
        rintro e W2 ⟨rfl, B2⟩
        go_wp2_with fail
        refine (K2.out _).mono ?_
        rintro e W3 ⟨rfl, B3⟩
        go_wp2_with fail
        refine (KF.out _).mono ?_
        rintro e W4 ⟨rfl, B4⟩
        go_wp2_with fail
        go_ret
        exact ⟨rfl, below_step (below_step (below_step B1 B2) B3) B4⟩
      · rw [O2] at K2
        rw [HM.out] at hm0
        have m1 : (m.toList == []) = false := by cases h : m.toList with | nil => exact absurd h hm0 | cons a l => rfl
        have m2 : m.toList.isEmpty = false := by cases h : m.toList with | nil => exact absurd h hm0 | cons a l => rfl
        clear O2 hm0
        go_enter Try.func6, Try.ntmps6
        go_wp2_with fail
        refine (KS.out _).mono ?_
        rintro e W1 ⟨rfl, B1⟩
        go_wp2_with fail
        refine (K1.out _).mono ?_
        rintro e W2 ⟨rfl, B2⟩
        go_wp2_with fail
        refine (K2.out _).mono ?_
        rintro e W3 ⟨rfl, B3⟩
        go_wp2_with fail
        refine (KF.out _).mono ?_
        rintro e W4 ⟨rfl, B4⟩
        go_wp2_with fail
        go_ret
        exact ⟨rfl, below_step (below_step (below_step B1 B2) B3) B4⟩
    · have l4 : (300 : Int) < m.size := by omega
      go_enter Try.func6, Try.ntmps6
      go_wp2_with fail
      refine (KF.out _).mono ?_
      rintro e W3 ⟨rfl, B3⟩
      go_wp2_with fail
      go_ret
      exact ⟨rfl, B3⟩
  · have l3 : (300 : Int) < s.size := by omega
    go_enter Try.func6, Try.ntmps6
    go_wp2_with fail
    refine (KF.out _).mono ?_
    rintro e W3 ⟨rfl, B3⟩
    go_wp2_with fail
    go_ret
    exact ⟨rfl, B3⟩

set_option maxRecDepth 100000 in
theorem lifted (os : Os) (started : os.Started) (H : Type) (enc : TypeId × Value → H) :
    ReturnsInHanded {} Try.checked os 6 .any (Rows.frameCutSpec.pre6 enc Try.prog Try.f6 Rows.frameCutRow.domain false) (Rows.frameCutSpec.post enc Try.prog Try.f6 false true false false) := by
  refine returnsInHanded_of_change (C := Try.checked) own started (by kernel_rfl) Try.func6
    (ChangeSpec.witness6 (enc := enc) (C := Try.checked) false ⟨#[], #[.int .u8 0, .string ⟨#[]⟩, .string ⟨#[]⟩, .int .u16 0], []⟩ 8 (by kernel_rfl) (by kernel_rfl) (by kernel_rfl) (by kernel_rfl)) ?_
  intro W base args ds gs before hval0 hW hcnd _
  have hval : ∀ (j : Nat) t v, Try.f6.params[j]? = some t → args[j]? = some v → Value.okWide Try.prog W .any base t v := hval0
  have hW' := hW
  obtain ⟨p, q, hA0, hV, rfl, _, _⟩ := hW
  have hA : DataW.TrodAll enc Try.prog W 0 (fun _ => true) true Try.f6.params.toList args.toList ds p := hA0
  rw [Try.params6] at hA hval
  obtain ⟨v0, v1, v2, v3, d0, d1, d2, d3, p0, p1, p2, p3, rfl, rfl, rfl, h0t, h1t, h2t, h3t⟩ := trodAll_four hA
  obtain ⟨rfl, rfl⟩ := trodVars_none hV
  obtain ⟨n0, rfl, hn0⟩ := open_u8 (hval 0 5 v0 rfl rfl) h0t
  obtain ⟨s1, rfl, -, -, hs1⟩ := Go.ChangeMaps.open_string Try.underlying9 (hval 1 9 v1 rfl rfl) h1t
  obtain ⟨s2, rfl, -, -, hs2⟩ := Go.ChangeMaps.open_string Try.underlying9 (hval 2 9 v2 rfl rfl) h2t
  obtain ⟨n3, rfl, hn3⟩ := open_u16 (hval 3 34 v3 rfl rfl) h3t
  clear hA0 hval0
  simp only [List.append_nil] at hW'
  have hlt : ∀ x ∈ p0 ++ p1 ++ p2 ++ p3, x.block < W.heap.size := fun x hx => by simpa using hW'.lt x (by simpa using hx)
  refine (walk n0 hn0 s1 s2 n3 hn3 W).mono fun e W' ⟨he, hbl⟩ => ?_
  subst he
  refine ⟨_, rfl, post_args hW' (fun _ _ _ => trodAll_mk1 (shut_bool Try.underlying4 _)) ?_ (fun _ => rfl) hbl⟩
  have t0 := Below.trod laidOut readable_u8 typed_u8 h0t hbl (fun x hx => hlt x (List.mem_append_left _ (List.mem_append_left _ (List.mem_append_left _ hx))))
  have t1 := Below.trod laidOut readable_str typed_str h1t hbl (fun x hx => hlt x (List.mem_append_left _ (List.mem_append_left _ (List.mem_append_right _ hx))))
  have t2 := Below.trod laidOut readable_str typed_str h2t hbl (fun x hx => hlt x (List.mem_append_left _ (List.mem_append_right _ hx)))
  have t3 := Below.trod laidOut readable_u16 typed_u16 h3t hbl (fun x hx => hlt x (List.mem_append_right _ hx))
  exact (show p0 ++ (p1 ++ (p2 ++ p3)) = p0 ++ p1 ++ p2 ++ p3 by simp only [List.append_assoc]) ▸ trodAll_mk4 t0 t1 t2 t3

theorem proved : Rows.FrameCutSaid :=
  OpenClaim.holds_of_wide 6 Try.f6 rfl rfl rfl rfl rfl rfl rfl ⟨rfl, rfl, rfl, rfl, rfl⟩ rfl rfl rfl rfl rfl (by kernel_rfl) Try.func6 (by kernel_rfl)
    (of_decide_eq_true (by kernel_rfl)) (by unfold Func.isWrapper; first | (rw [if_pos (by decide +kernel)]; kernel_rfl) | (rw [if_neg (by decide +kernel)]; exact ⟨rfl, rfl⟩))
    (fun os started H enc _ => lifted os started H enc)
#print axioms proved
end Go.Proofs.Ythbgbgobfoecoaa.frameCut
