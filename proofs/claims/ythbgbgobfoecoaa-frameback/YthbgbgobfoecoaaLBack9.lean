/- For any kind, payload and bytes the law FrameBack answers true: what is sealed is opened, as it was; what is opened would be sealed so. No condition. -/
import Derived.Test.YthbgbgobfoecoaaJ06
namespace Go.Proofs.Ythbgbgobfoecoaa.frameBack
open Go.ChangeShapes Go.WideShapes Go.ChangeAt Go.RowKit
open Go.Proofs.Ythbgbgobfoecoaa
set_option linter.unusedVariables false
set_option linter.unusedSimpArgs false

set_option maxHeartbeats 2000000 in
set_option maxRecDepth 100000 in
theorem walk (n : Nat) (hn : n < 256) (p s : ByteArray) (w : World) : Calls Try.prog 4 #[.int .u8 (n : Int), .string p, .string s] w fun e w' => e = .returned (.bool true) ∧ Below w.heap.size w w' := by
  have KF := Lib.hid awake9_any
  by_cases hp : p.size ≤ 600
  · have l3 : ¬ (600 : Int) < p.size := by omega
    by_cases hs : s.size ≤ 600
    · have l4 : ¬ (600 : Int) < s.size := by omega
      obtain ⟨r, hr⟩ : ∃ r, r = n % 8 := ⟨_, rfl⟩
      obtain ⟨k, hk⟩ : ∃ k, k = 1 + r := ⟨_, rfl⟩
      have e1 : (n : Int) % 8 = (r : Int) := by omega
      have e2 : Int.tmod (n : Int) 8 = (r : Int) := by rw [show (8 : Int) = ((8 : Nat) : Int) from rfl, ← Int.ofNat_tmod, hr]
      have w1 : IntKind.i64.wrap (r : Int) = r := by rw [IntKind.wrap_i64]; omega
      have r8 : (r : Int) < 8 := by omega
      have ek : (k : Int) = 1 + (r : Int) := by omega
      have KS := Lib.hid (fun W => seal_ok k (by omega) (by omega) p (by omega) W)
      rw [ek] at KS
      have O1 : opn (L (bs (fseal k (L p)))) = (k, L p, 0) := by rw [L_bs]; exact opn_seal (by omega) (by omega) (by rw [L_len]; omega)
      have K1 := Lib.hid (fun W => open_any (bs (fseal k (L p))) (by rw [bs_size, fseal_len, L_len]; have := enc_ten (show p.size < 18446744073709551616 by omega); omega) W)
      rw [O1] at K1
      simp only [bs_L] at K1
      rw [ek] at K1
      obtain ⟨t, ht⟩ : ∃ t, t = bs (fseal k (L p)) := ⟨_, rfl⟩
      rw [← ht] at KS K1
      have KO := Lib.hid (fun W => open_any s (by omega) W)
      have OC := opn_cases (L s)
      clear hr ht hk ek O1
      have ORD : (∃ x : Int, (x == 0) = false ∧ ¬ x = 0 ∧ Hid (∀ W : World, Calls Try.prog 12 #[.string s] W fun e w' => e = .returned (.tuple #[.int .i64 0, .string ⟨#[]⟩, .int .i64 x]) ∧ Below W.heap.size W w')) ∨
          ∃ (m : Nat) (q : ByteArray), 1 ≤ m ∧ m ≤ 8 ∧ q.size ≤ 600 ∧ s = bs (fseal m (L q)) ∧ Hid (∀ W : World, Calls Try.prog 12 #[.string s] W fun e w' => e = .returned (.tuple #[.int .i64 (m : Int), .string q, .int .i64 0]) ∧ Below W.heap.size W w') := by
        rcases OC with ⟨m, l, a, b, c, d, e⟩ | e | e
        · refine Or.inr ⟨m, bs l, a, b, ?_, by rw [L_bs, ← d, bs_L], ?_⟩
          · have q := congrArg List.length d
            rw [fseal_len, L_len] at q
            rw [bs_size]
            omega
          · rw [e] at KO
            exact KO
        · rw [e] at KO
          exact Or.inl ⟨2, rfl, by decide, KO⟩
        · rw [e] at KO
          exact Or.inl ⟨11, rfl, by decide, KO⟩
      clear KO OC
      rcases ORD with ⟨x, x0, x1, KO⟩ | ⟨m, q, m1, m8, q6, es, KO⟩
      · go_enter Try.func4, Try.ntmps4
        go_wp2_with fail
        refine (KS.out _).mono ?_
        rintro e W1 ⟨rfl, B1⟩
        go_wp2_with fail
        refine (K1.out _).mono ?_
        rintro e W2 ⟨rfl, B2⟩
        go_wp2_with fail
        refine (KO.out _).mono ?_
        rintro e W3 ⟨rfl, B3⟩
        go_wp2_with fail
        refine (KF.out _).mono ?_
        rintro e W4 ⟨rfl, B4⟩
        go_wp2_with fail
        go_ret
        exact ⟨rfl, below_step (below_step (below_step B1 B2) B3) B4⟩
      · have KU := Lib.hid (fun W => seal_ok m m1 m8 q (by omega) W)
        rw [← es] at KU
        clear es m1 m8 q6
        go_enter Try.func4, Try.ntmps4
        go_wp2_with fail
        refine (KS.out _).mono ?_
        rintro e W1 ⟨rfl, B1⟩
        go_wp2_with fail
        refine (K1.out _).mono ?_
        rintro e W2 ⟨rfl, B2⟩
        go_wp2_with fail
        refine (KO.out _).mono ?_
        rintro e W3 ⟨rfl, B3⟩
        go_wp2_with fail
        refine (KU.out _).mono ?_
        rintro e W4 ⟨rfl, B4⟩
        go_wp2_with fail
        refine (KF.out _).mono ?_
        rintro e W5 ⟨rfl, B5⟩
        go_wp2_with fail
        go_ret
        exact ⟨rfl, below_step (below_step (below_step (below_step B1 B2) B3) B4) B5⟩
    · have l4 : (600 : Int) < s.size := by omega
      go_enter Try.func4, Try.ntmps4
      go_wp2_with fail
      refine (KF.out _).mono ?_
      rintro e W3 ⟨rfl, B3⟩
      go_wp2_with fail
      go_ret
      exact ⟨rfl, B3⟩
  · have l3 : (600 : Int) < p.size := by omega
    go_enter Try.func4, Try.ntmps4
    go_wp2_with fail
    refine (KF.out _).mono ?_
    rintro e W3 ⟨rfl, B3⟩
    go_wp2_with fail
    go_ret
    exact ⟨rfl, B3⟩

set_option maxRecDepth 100000 in
theorem lifted (os : Os) (started : os.Started) (H : Type) (enc : TypeId × Value → H) :
    ReturnsInHanded {} Try.checked os 4 .any (Rows.frameBackSpec.pre6 enc Try.prog Try.f4 Rows.frameBackRow.domain false) (Rows.frameBackSpec.post enc Try.prog Try.f4 false true false false) := by
  refine returnsInHanded_of_change (C := Try.checked) own started (by kernel_rfl) Try.func4
    (ChangeSpec.witness6 (enc := enc) (C := Try.checked) false ⟨#[], #[.int .u8 0, .string ⟨#[]⟩, .string ⟨#[]⟩], []⟩ 8 (by kernel_rfl) (by kernel_rfl) (by kernel_rfl) (by kernel_rfl)) ?_
  intro W base args ds gs before hval0 hW hcnd _
  have hval : ∀ (j : Nat) t v, Try.f4.params[j]? = some t → args[j]? = some v → Value.okWide Try.prog W .any base t v := hval0
  have hW' := hW
  obtain ⟨p, q, hA0, hV, rfl, _, _⟩ := hW
  have hA : DataW.TrodAll enc Try.prog W 0 (fun _ => true) true Try.f4.params.toList args.toList ds p := hA0
  rw [Try.params4] at hA hval
  obtain ⟨v0, v1, v2, d0, d1, d2, p0, p1, p2, rfl, rfl, rfl, h0t, h1t, h2t⟩ := trodAll_three hA
  obtain ⟨rfl, rfl⟩ := trodVars_none hV
  obtain ⟨n0, rfl, hn0⟩ := open_u8 (hval 0 5 v0 rfl rfl) h0t
  obtain ⟨s1, rfl, -, -, hs1⟩ := Go.ChangeMaps.open_string Try.underlying9 (hval 1 9 v1 rfl rfl) h1t
  obtain ⟨s2, rfl, -, -, hs2⟩ := Go.ChangeMaps.open_string Try.underlying9 (hval 2 9 v2 rfl rfl) h2t
  clear hA0 hval0
  simp only [List.append_nil] at hW'
  have hlt : ∀ x ∈ p0 ++ p1 ++ p2, x.block < W.heap.size := fun x hx => by simpa using hW'.lt x (by simpa using hx)
  refine (walk n0 hn0 s1 s2 W).mono fun e W' ⟨he, hbl⟩ => ?_
  subst he
  refine ⟨_, rfl, post_args hW' (fun _ _ _ => trodAll_mk1 (shut_bool Try.underlying4 _)) ?_ (fun _ => rfl) hbl⟩
  have t0 := Below.trod laidOut readable_u8 typed_u8 h0t hbl (fun x hx => hlt x (List.mem_append_left _ (List.mem_append_left _ hx)))
  have t1 := Below.trod laidOut readable_str typed_str h1t hbl (fun x hx => hlt x (List.mem_append_left _ (List.mem_append_right _ hx)))
  have t2 := Below.trod laidOut readable_str typed_str h2t hbl (fun x hx => hlt x (List.mem_append_right _ hx))
  exact (List.append_assoc p0 p1 p2) ▸ trodAll_mk3 t0 t1 t2

theorem proved : Rows.FrameBackSaid :=
  OpenClaim.holds_of_wide 4 Try.f4 rfl rfl rfl rfl rfl rfl rfl ⟨rfl, rfl, rfl, rfl, rfl⟩ rfl rfl rfl rfl rfl (by kernel_rfl) Try.func4 (by kernel_rfl)
    (of_decide_eq_true (by kernel_rfl)) (by unfold Func.isWrapper; first | (rw [if_pos (by decide +kernel)]; kernel_rfl) | (rw [if_neg (by decide +kernel)]; exact ⟨rfl, rfl⟩))
    (fun os started H enc _ => lifted os started H enc)
#print axioms proved
end Go.Proofs.Ythbgbgobfoecoaa.frameBack
