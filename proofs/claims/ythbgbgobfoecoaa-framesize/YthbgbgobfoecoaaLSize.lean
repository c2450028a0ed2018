/- For any kind and any payload the law FrameSize answers true: a frame has ten bytes, and those of its payload as a text, and the kind as its sixth; nothing is sealed of what is no kind. No condition. -/
import Derived.Test.YthbgbgobfoecoaaJ06
namespace Go.Proofs.Ythbgbgobfoecoaa.frameSize
open Go.ChangeShapes Go.WideShapes Go.ChangeAt Go.RowKit
open Go.Proofs.Ythbgbgobfoecoaa
set_option linter.unusedVariables false
set_option linter.unusedSimpArgs false

set_option maxHeartbeats 2000000 in
set_option maxRecDepth 100000 in
theorem walk (k : Int) (s : ByteArray) (w : World) : Calls Try.prog 8 #[.int .i64 k, .string s] w fun e w' => e = .returned (.bool true) ∧ Below w.heap.size w w' := by
  have KF := Lib.hid awake9_any
  by_cases hs : s.size ≤ 300
  · have l3 : ¬ (300 : Int) < s.size := by omega
    by_cases hk : 1 ≤ k ∧ k ≤ 8
    · obtain ⟨n, rfl⟩ : ∃ n : Nat, k = n := ⟨k.toNat, by omega⟩
      have k1 : ¬ (n : Int) < 1 := by omega
      have k8 : ¬ (8 : Int) < n := by omega
      have KS := Lib.hid (fun W => seal_ok n (by omega) (by omega) s (by omega) W)
      have KN := Lib.hid (fun W => refNumber_any s.size (by omega) W)
      obtain ⟨b, eb, eb2⟩ := byte_low (show n < 256 by omega)
      have WB : IntKind.u8.wrap (n : Int) = (b.toNat : Int) := by rw [← eb]; unfold IntKind.wrap; simp [IntKind.signed, IntKind.bits]; omega
      obtain ⟨t, ht⟩ : ∃ t, t = bs (fseal n (L s)) := ⟨_, rfl⟩
      obtain ⟨en, hen⟩ : ∃ t, t = bs (enc s.size) := ⟨_, rfl⟩
      have el : en.size ≤ 10 := by rw [hen, bs_size]; exact enc_ten (by omega)
      have ts : t.size = 10 + en.size + s.size := by rw [ht, hen, bs_size, bs_size, fseal_len, L_len]
      rw [← ht] at KS
      rw [← hen] at KN
      have t6 : 5 < t.size := by omega
      have i6 : (5 : Int) < t.size := by omega
      have t5 : t[5]'t6 = b := by
        rw [eb2]
        subst ht
        rfl
      have WU : IntKind.u64.wrap (s.size : Int) = (s.size : Int) := by rw [IntKind.wrap_u64]; omega
      have W1 : IntKind.i64.wrap (10 + (en.size : Int)) = 10 + (en.size : Int) := by rw [IntKind.wrap_i64]; omega
      have W2 : IntKind.i64.wrap (10 + (en.size : Int) + (s.size : Int)) = 10 + (en.size : Int) + (s.size : Int) := by rw [IntKind.wrap_i64]; omega
      have te : ((t.size : Int) == 10 + (en.size : Int) + (s.size : Int)) = true := by rw [ts]; simp
      clear ts ht hen el hk eb eb2
      go_enter Try.func8, Try.ntmps8
      go_wp2_with fail
      refine (KS.out _).mono ?_
      rintro e W1 ⟨rfl, B1⟩
      go_wp2_with fail
      refine (KN.out _).mono ?_
      rintro e W2 ⟨rfl, B2⟩
      go_wp2_with fail
      refine (KF.out _).mono ?_
      rintro e W3 ⟨rfl, B3⟩
      go_wp2_with fail
      go_ret
      exact ⟨rfl, below_step (below_step B1 B2) B3⟩
    · have KS := Lib.hid (fun W => seal_kind k (by omega) s W)
      have hk : k < 1 ∨ (¬ k < 1 ∧ 8 < k) := by omega
      go_enter Try.func8, Try.ntmps8
      rcases hk with k1 | ⟨k1, k8⟩
      all_goals
        go_wp2_with fail
        refine (KS.out _).mono ?_
        rintro e W1 ⟨rfl, rfl⟩
        go_wp2_with fail
        refine (KF.out _).mono ?_
        rintro e W3 ⟨rfl, B3⟩
        go_wp2_with fail
        go_ret
        exact ⟨rfl, B3⟩
  · have l3 : (300 : Int) < s.size := by omega
    go_enter Try.func8, Try.ntmps8
    go_wp2_with fail
    refine (KF.out _).mono ?_
    rintro e W3 ⟨rfl, B3⟩
    go_wp2_with fail
    go_ret
    exact ⟨rfl, B3⟩

set_option maxRecDepth 100000 in
theorem lifted (os : Os) (started : os.Started) (H : Type) (enc : TypeId × Value → H) :
    ReturnsInHanded {} Try.checked os 8 .any (Rows.frameSizeSpec.pre6 enc Try.prog Try.f8 Rows.frameSizeRow.domain false) (Rows.frameSizeSpec.post enc Try.prog Try.f8 false true false false) := by
  refine returnsInHanded_of_change (C := Try.checked) own started (by kernel_rfl) Try.func8
    (ChangeSpec.witness6 (enc := enc) (C := Try.checked) false ⟨#[], #[.int .i64 0, .string ⟨#[]⟩], []⟩ 8 (by kernel_rfl) (by kernel_rfl) (by kernel_rfl) (by kernel_rfl)) ?_
  intro W base args ds gs before hval0 hW hcnd _
  have hval : ∀ (j : Nat) t v, Try.f8.params[j]? = some t → args[j]? = some v → Value.okWide Try.prog W .any base t v := hval0
  have hW' := hW
  obtain ⟨p, q, hA0, hV, rfl, _, _⟩ := hW
  have hA : DataW.TrodAll enc Try.prog W 0 (fun _ => true) true Try.f8.params.toList args.toList ds p := hA0
  rw [Try.params8] at hA hval
  obtain ⟨v0, v1, d0, d1, p0, p1, rfl, rfl, rfl, h0t, h1t⟩ := trodAll_two hA
  obtain ⟨rfl, rfl⟩ := trodVars_none hV
  obtain ⟨x0, rfl, hx0⟩ := open_i64 (hval 0 3 v0 rfl rfl) h0t
  obtain ⟨s1, rfl, -, -, hs1⟩ := Go.ChangeMaps.open_string Try.underlying9 (hval 1 9 v1 rfl rfl) h1t
  clear hA0 hval0
  simp only [List.append_nil] at hW'
  have hlt : ∀ x ∈ p0 ++ p1, x.block < W.heap.size := fun x hx => by simpa using hW'.lt x (by simpa using hx)
  refine (walk x0 s1 W).mono fun e W' ⟨he, hbl⟩ => ?_
  subst he
  refine ⟨_, rfl, post_args hW' (fun _ _ _ => trodAll_mk1 (shut_bool Try.underlying4 _)) ?_ (fun _ => rfl) hbl⟩
  have t0 := Below.trod laidOut readable_int typed_int h0t hbl (fun x hx => hlt x (List.mem_append_left _ hx))
  have t1 := Below.trod laidOut readable_str typed_str h1t hbl (fun x hx => hlt x (List.mem_append_right _ hx))
  exact trodAll_mk2 t0 t1

theorem proved : Rows.FrameSizeSaid :=
  OpenClaim.holds_of_wide 8 Try.f8 rfl rfl rfl rfl rfl rfl rfl ⟨rfl, rfl, rfl, rfl, rfl⟩ rfl rfl rfl rfl rfl (by kernel_rfl) Try.func8 (by kernel_rfl)
    (of_decide_eq_true (by kernel_rfl)) (by unfold Func.isWrapper; first | (rw [if_pos (by decide +kernel)]; kernel_rfl) | (rw [if_neg (by decide +kernel)]; exact ⟨rfl, rfl⟩))
    (fun os started H enc _ => lifted os started H enc)
#print axioms proved
end Go.Proofs.Ythbgbgobfoecoaa.frameSize
