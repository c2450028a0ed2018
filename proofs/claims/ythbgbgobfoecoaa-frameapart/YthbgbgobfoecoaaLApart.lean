/- For any two kinds and payloads the law FrameApart answers true: frames are alike just if their kinds and payloads are. No condition. -/
import Derived.Test.YthbgbgobfoecoaaJ06
namespace Go.Proofs.Ythbgbgobfoecoaa.frameApart
open Go.ChangeShapes Go.WideShapes Go.ChangeAt Go.RowKit
open Go.Proofs.Ythbgbgobfoecoaa
set_option linter.unusedVariables false
set_option linter.unusedSimpArgs false

/-- A kind made of a byte. -/
structure Kd (n r k : Nat) : Prop where
  hk : k = 1 + r
  hr : r < 8
  e1 : (n : Int) % 8 = (r : Int)
  e2 : Int.tmod (n : Int) 8 = (r : Int)
  w1 : IntKind.i64.wrap (r : Int) = r
  w2 : IntKind.i64.wrap (1 + (r : Int)) = (k : Int)
theorem Kd.of (n : Nat) : Kd n (n % 8) (1 + n % 8) :=
  ⟨rfl, Nat.mod_lt _ (by decide), by omega, by rw [show (8 : Int) = ((8 : Nat) : Int) from rfl, ← Int.ofNat_tmod], by rw [IntKind.wrap_i64]; omega, by rw [IntKind.wrap_i64]; omega⟩
theorem text_ne {a b : ByteArray} (h : a ≠ b) : (a.toList == b.toList) = false := by
  rw [ByteArray.toList_eq, ByteArray.toList_eq]
  cases q : (a.data.toList == b.data.toList) with
  | false => rfl
  | true => exact absurd (L_inj (eq_of_beq q)) h
set_option maxHeartbeats 2000000 in
set_option maxRecDepth 100000 in
theorem walk (n : Nat) (hn : n < 256) (m : Nat) (hm : m < 256) (p q : ByteArray) (w : World) : Calls Try.prog 7 #[.int .u8 (n : Int), .int .u8 (m : Int), .string p, .string q] w fun e w' => e = .returned (.bool true) ∧ Below w.heap.size w w' := by
  have KF := Lib.hid awake9_any
  by_cases hp : p.size ≤ 300
  · have l3 : ¬ (300 : Int) < p.size := by omega
    by_cases hq : q.size ≤ 300
    · have l4 : ¬ (300 : Int) < q.size := by omega
      have D := Kd.of n
      have E := Kd.of m
      have KS := Lib.hid (fun W => seal_ok (1 + n % 8) (by omega) (by omega) p (by omega) W)
      have KT := Lib.hid (fun W => seal_ok (1 + m % 8) (by omega) (by omega) q (by omega) W)
      have INJ : bs (fseal (1 + n % 8) (L p)) = bs (fseal (1 + m % 8) (L q)) → 1 + n % 8 = 1 + m % 8 ∧ p = q := by
        intro h
        have h := congrArg L h
        rw [L_bs, L_bs] at h
        obtain ⟨a, b⟩ := fseal_inj (by omega) (by omega) (by rw [L_len]; omega) (by rw [L_len]; omega) h
        exact ⟨a, L_inj b⟩
      obtain ⟨t, ht⟩ : ∃ t, t = bs (fseal (1 + n % 8) (L p)) := ⟨_, rfl⟩
      obtain ⟨u, hu⟩ : ∃ t, t = bs (fseal (1 + m % 8) (L q)) := ⟨_, rfl⟩
      rw [← ht] at KS INJ
      rw [← hu] at KT INJ
      have SAME : n % 8 = m % 8 → p = q → t = u := by
        intro h1 h2
        rw [ht, hu, h1, h2]
      clear ht hu
      rw [show ((1 + n % 8 : Nat) : Int) = 1 + ((n % 8 : Nat) : Int) by omega] at KS
      rw [show ((1 + m % 8 : Nat) : Int) = 1 + ((m % 8 : Nat) : Int) by omega] at KT
      generalize n % 8 = r at *
      generalize m % 8 = z at *
      obtain ⟨dk, dr, e1, e2, w1, w2⟩ := D
      obtain ⟨ek, er, f1, f2, v1, v2⟩ := E
      by_cases hr : r = z
      · subst hr
        by_cases hz : p = q
        · obtain rfl : t = u := SAME rfl hz
          subst hz
          clear INJ SAME hq l4 dk ek er
          go_enter Try.func7, Try.ntmps7
          go_wp2_with fail
          refine (KS.out _).mono ?_
          rintro e W1 ⟨rfl, B1⟩
          go_wp2_with fail
          refine (KT.out _).mono ?_
          rintro e W2 ⟨rfl, B2⟩
          go_wp2_with fail
          refine (KF.out _).mono ?_
          rintro e W3 ⟨rfl, B3⟩
          go_wp2_with fail
          go_ret
          exact ⟨rfl, below_step (below_step B1 B2) B3⟩
        · have bp := text_ne hz
          have bt := text_ne (fun h => hz (INJ h).2)
          clear INJ SAME hz dk ek er
          go_enter Try.func7, Try.ntmps7
          go_wp2_with fail
          refine (KS.out _).mono ?_
          rintro e W1 ⟨rfl, B1⟩
          go_wp2_with fail
          refine (KT.out _).mono ?_
          rintro e W2 ⟨rfl, B2⟩
          go_wp2_with fail
          refine (KF.out _).mono ?_
          rintro e W3 ⟨rfl, B3⟩
          go_wp2_with fail
          go_ret
          exact ⟨rfl, below_step (below_step B1 B2) B3⟩
      · have bt := text_ne (fun h => hr (by have := (INJ h).1; omega))
        have nr : ¬ (r : Int) = (z : Int) := by omega
        have br : ((r : Int) == (z : Int)) = false := by simpa using nr
        clear INJ SAME dk ek hr
        go_enter Try.func7, Try.ntmps7
        go_wp2_with fail
        refine (KS.out _).mono ?_
        rintro e W1 ⟨rfl, B1⟩
        go_wp2_with fail
        refine (KT.out _).mono ?_
        rintro e W2 ⟨rfl, B2⟩
        go_wp2_with fail
        refine (KF.out _).mono ?_
        rintro e W3 ⟨rfl, B3⟩
        go_wp2_with fail
        go_ret
        exact ⟨rfl, below_step (below_step B1 B2) B3⟩
    · have l4 : (300 : Int) < q.size := by omega
      go_enter Try.func7, Try.ntmps7
      go_wp2_with fail
      refine (KF.out _).mono ?_
      rintro e W3 ⟨rfl, B3⟩
      go_wp2_with fail
      go_ret
      exact ⟨rfl, B3⟩
  · have l3 : (300 : Int) < p.size := by omega
    go_enter Try.func7, Try.ntmps7
    go_wp2_with fail
    refine (KF.out _).mono ?_
    rintro e W3 ⟨rfl, B3⟩
    go_wp2_with fail
    go_ret
    exact ⟨rfl, B3⟩

set_option maxRecDepth 100000 in
theorem lifted (os : Os) (started : os.Started) (H : Type) (enc : TypeId × Value → H) :
    ReturnsInHanded {} Try.checked os 7 .any (Rows.frameApartSpec.pre6 enc Try.prog Try.f7 Rows.frameApartRow.domain false) (Rows.frameApartSpec.post enc Try.prog Try.f7 false true false false) := by
  refine returnsInHanded_of_change (C := Try.checked) own started (by kernel_rfl) Try.func7
    (ChangeSpec.witness6 (enc := enc) (C := Try.checked) false ⟨#[], #[.int .u8 0, .int .u8 0, .string ⟨#[]⟩, .string ⟨#[]⟩], []⟩ 8 (by kernel_rfl) (by kernel_rfl) (by kernel_rfl) (by kernel_rfl)) ?_
  intro W base args ds gs before hval0 hW hcnd _
  have hval : ∀ (j : Nat) t v, Try.f7.params[j]? = some t → args[j]? = some v → Value.okWide Try.prog W .any base t v := hval0
  have hW' := hW
  obtain ⟨p, q, hA0, hV, rfl, _, _⟩ := hW
  have hA : DataW.TrodAll enc Try.prog W 0 (fun _ => true) true Try.f7.params.toList args.toList ds p := hA0
  rw [Try.params7] at hA hval
  obtain ⟨v0, v1, v2, v3, d0, d1, d2, d3, p0, p1, p2, p3, rfl, rfl, rfl, h0t, h1t, h2t, h3t⟩ := trodAll_four hA
  obtain ⟨rfl, rfl⟩ := trodVars_none hV
  obtain ⟨n0, rfl, hn0⟩ := open_u8 (hval 0 5 v0 rfl rfl) h0t
  obtain ⟨n1, rfl, hn1⟩ := open_u8 (hval 1 5 v1 rfl rfl) h1t
  obtain ⟨s2, rfl, -, -, hs2⟩ := Go.ChangeMaps.open_string Try.underlying9 (hval 2 9 v2 rfl rfl) h2t
  obtain ⟨s3, rfl, -, -, hs3⟩ := Go.ChangeMaps.open_string Try.underlying9 (hval 3 9 v3 rfl rfl) h3t
  clear hA0 hval0
  simp only [List.append_nil] at hW'
  have hlt : ∀ x ∈ p0 ++ p1 ++ p2 ++ p3, x.block < W.heap.size := fun x hx => by simpa using hW'.lt x (by simpa using hx)
  refine (walk n0 hn0 n1 hn1 s2 s3 W).mono fun e W' ⟨he, hbl⟩ => ?_
  subst he
  refine ⟨_, rfl, post_args hW' (fun _ _ _ => trodAll_mk1 (shut_bool Try.underlying4 _)) ?_ (fun _ => rfl) hbl⟩
  have t0 := Below.trod laidOut readable_u8 typed_u8 h0t hbl (fun x hx => hlt x (List.mem_append_left _ (List.mem_append_left _ (List.mem_append_left _ hx))))
  have t1 := Below.trod laidOut readable_u8 typed_u8 h1t hbl (fun x hx => hlt x (List.mem_append_left _ (List.mem_append_left _ (List.mem_append_right _ hx))))
  have t2 := Below.trod laidOut readable_str typed_str h2t hbl (fun x hx => hlt x (List.mem_append_left _ (List.mem_append_right _ hx)))
  have t3 := Below.trod laidOut readable_str typed_str h3t hbl (fun x hx => hlt x (List.mem_append_right _ hx))
  exact (show p0 ++ (p1 ++ (p2 ++ p3)) = p0 ++ p1 ++ p2 ++ p3 by simp only [List.append_assoc]) ▸ trodAll_mk4 t0 t1 t2 t3

theorem proved : Rows.FrameApartSaid :=
  OpenClaim.holds_of_wide 7 Try.f7 rfl rfl rfl rfl rfl rfl rfl ⟨rfl, rfl, rfl, rfl, rfl⟩ rfl rfl rfl rfl rfl (by kernel_rfl) Try.func7 (by kernel_rfl)
    (of_decide_eq_true (by kernel_rfl)) (by unfold Func.isWrapper; first | (rw [if_pos (by decide +kernel)]; kernel_rfl) | (rw [if_neg (by decide +kernel)]; exact ⟨rfl, rfl⟩))
    (fun os started H enc _ => lifted os started H enc)
#print axioms proved
end Go.Proofs.Ythbgbgobfoecoaa.frameApart
