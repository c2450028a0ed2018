/- For any kind, payload and bytes the law FrameTells answers true: the frame of any payload, and what is in any bytes, are what the document says, or refused. No condition. -/
import Derived.Test.YthbgbgobfoecoaaJ06
namespace Go.Proofs.Ythbgbgobfoecoaa.frameTells
open Go.ChangeShapes Go.WideShapes Go.ChangeAt Go.RowKit
open Go.Proofs.Ythbgbgobfoecoaa
set_option linter.unusedVariables false
set_option linter.unusedSimpArgs false

set_option maxHeartbeats 2000000 in
set_option maxRecDepth 100000 in
theorem walk (k : Int) (p s : ByteArray) (w : World) : Calls Try.prog 3 #[.int .i64 k, .string p, .string s] w fun e w' => e = .returned (.bool true) ∧ Below w.heap.size w w' := by
  have KF := Lib.hid awake9_any
  by_cases hp : p.size ≤ 600
  · have l3 : ¬ (600 : Int) < p.size := by omega
    by_cases hs : s.size ≤ 600
    · have l4 : ¬ (600 : Int) < s.size := by omega
      have KO := Lib.hid (fun W => open_any s (by omega) W)
      have KP := Lib.hid (fun W => refOpen_any s (by omega) W)
      obtain ⟨t, x, KS, KT⟩ : ∃ (t : ByteArray) (x : Int), Hid (∀ W : World, Calls Try.prog 10 #[.int .i64 k, .string p] W fun e w' => e = .returned (.tuple #[.string t, .int .i64 x]) ∧ Below W.heap.size W w') ∧ Hid (∀ W : World, Calls Try.prog 11 #[.int .i64 k, .string p] W fun e w' => e = .returned (.tuple #[.string t, .int .i64 x]) ∧ Below W.heap.size W w') := by
        by_cases hk : 1 ≤ k ∧ k ≤ 8
        · obtain ⟨n, rfl⟩ : ∃ n : Nat, k = n := ⟨k.toNat, by omega⟩
          exact ⟨_, _, Lib.hid (fun W => seal_ok n (by omega) (by omega) p (by omega) W), Lib.hid (fun W => refSeal_ok n (by omega) (by omega) p (by omega) W)⟩
        · refine ⟨⟨#[]⟩, 1, Lib.hid (fun W => (seal_kind k (by omega) p W).mono ?_), Lib.hid (fun W => (refSeal_kind k (by omega) p W).mono ?_)⟩
          · rintro e w' ⟨rfl, rfl⟩
            exact ⟨rfl, Below.refl _ _⟩
          · rintro e w' ⟨rfl, rfl⟩
            exact ⟨rfl, Below.refl _ _⟩
      generalize ((opn (L s)).1 : Int) = o1 at *
      generalize bs (opn (L s)).2.1 = o2 at *
      generalize ((opn (L s)).2.2 : Int) = o3 at *
      go_enter Try.func3, Try.ntmps3
      go_wp2_with fail
      refine (KS.out _).mono ?_
      rintro e W1 ⟨rfl, B1⟩
      go_wp2_with fail
      refine (KT.out _).mono ?_
      rintro e W2 ⟨rfl, B2⟩
      go_wp2_with fail
      refine (KO.out _).mono ?_
      rintro e W3 ⟨rfl, B3⟩
      go_wp2_with fail
      refine (KP.out _).mono ?_
      rintro e W4 ⟨rfl, B4⟩
      go_wp2_with fail
      refine (KF.out _).mono ?_
      rintro e W5 ⟨rfl, B5⟩
      go_wp2_with fail
      go_ret
      exact ⟨rfl, below_step (below_step (below_step (below_step B1 B2) B3) B4) B5⟩
    · have l4 : (600 : Int) < s.size := by omega
      go_enter Try.func3, Try.ntmps3
      go_wp2_with fail
      refine (KF.out _).mono ?_
      rintro e W3 ⟨rfl, B3⟩
      go_wp2_with fail
      go_ret
      exact ⟨rfl, B3⟩
  · have l3 : (600 : Int) < p.size := by omega
    go_enter Try.func3, Try.ntmps3
    go_wp2_with fail
    refine (KF.out _).mono ?_
    rintro e W3 ⟨rfl, B3⟩
    go_wp2_with fail
    go_ret
    exact ⟨rfl, B3⟩

set_option maxRecDepth 100000 in
theorem lifted (os : Os) (started : os.Started) (H : Type) (enc : TypeId × Value → H) :
    ReturnsInHanded {} Try.checked os 3 .any (Rows.frameTellsSpec.pre6 enc Try.prog Try.f3 Rows.frameTellsRow.domain false) (Rows.frameTellsSpec.post enc Try.prog Try.f3 false true false false) := by
  refine returnsInHanded_of_change (C := Try.checked) own started (by kernel_rfl) Try.func3
    (ChangeSpec.witness6 (enc := enc) (C := Try.checked) false ⟨#[], #[.int .i64 0, .string ⟨#[]⟩, .string ⟨#[]⟩], []⟩ 8 (by kernel_rfl) (by kernel_rfl) (by kernel_rfl) (by kernel_rfl)) ?_
  intro W base args ds gs before hval0 hW hcnd _
  have hval : ∀ (j : Nat) t v, Try.f3.params[j]? = some t → args[j]? = some v → Value.okWide Try.prog W .any base t v := hval0
  have hW' := hW
  obtain ⟨p, q, hA0, hV, rfl, _, _⟩ := hW
  have hA : DataW.TrodAll enc Try.prog W 0 (fun _ => true) true Try.f3.params.toList args.toList ds p := hA0
  rw [Try.params3] at hA hval
  obtain ⟨v0, v1, v2, d0, d1, d2, p0, p1, p2, rfl, rfl, rfl, h0t, h1t, h2t⟩ := trodAll_three hA
  obtain ⟨rfl, rfl⟩ := trodVars_none hV
  obtain ⟨x0, rfl, hx0⟩ := open_i64 (hval 0 3 v0 rfl rfl) h0t
  obtain ⟨s1, rfl, -, -, hs1⟩ := Go.ChangeMaps.open_string Try.underlying9 (hval 1 9 v1 rfl rfl) h1t
  obtain ⟨s2, rfl, -, -, hs2⟩ := Go.ChangeMaps.open_string Try.underlying9 (hval 2 9 v2 rfl rfl) h2t
  clear hA0 hval0
  simp only [List.append_nil] at hW'
  have hlt : ∀ x ∈ p0 ++ p1 ++ p2, x.block < W.heap.size := fun x hx => by simpa using hW'.lt x (by simpa using hx)
  refine (walk x0 s1 s2 W).mono fun e W' ⟨he, hbl⟩ => ?_
  subst he
  refine ⟨_, rfl, post_args hW' (fun _ _ _ => trodAll_mk1 (shut_bool Try.underlying4 _)) ?_ (fun _ => rfl) hbl⟩
  have t0 := Below.trod laidOut readable_int typed_int h0t hbl (fun x hx => hlt x (List.mem_append_left _ (List.mem_append_left _ hx)))
  have t1 := Below.trod laidOut readable_str typed_str h1t hbl (fun x hx => hlt x (List.mem_append_left _ (List.mem_append_right _ hx)))
  have t2 := Below.trod laidOut readable_str typed_str h2t hbl (fun x hx => hlt x (List.mem_append_right _ hx))
  exact (List.append_assoc p0 p1 p2) ▸ trodAll_mk3 t0 t1 t2

theorem proved : Rows.FrameTellsSaid :=
  OpenClaim.holds_of_wide 3 Try.f3 rfl rfl rfl rfl rfl rfl rfl ⟨rfl, rfl, rfl, rfl, rfl⟩ rfl rfl rfl rfl rfl (by kernel_rfl) Try.func3 (by kernel_rfl)
    (of_decide_eq_true (by kernel_rfl)) (by unfold Func.isWrapper; first | (rw [if_pos (by decide +kernel)]; kernel_rfl) | (rw [if_neg (by decide +kernel)]; exact ⟨rfl, rfl⟩))
    (fun os started H enc _ => lifted os started H enc)
#print axioms proved
end Go.Proofs.Ythbgbgobfoecoaa.frameTells
