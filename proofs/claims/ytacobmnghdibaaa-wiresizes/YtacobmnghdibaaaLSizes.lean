/- For any number, limbs and number of 128 bits the law WireSizes answers true: a number has as many bytes as its bits take, seven each, a natural four a limb and how many. No condition. -/
import Derived.Test.YtacobmnghdibaaaJ15
namespace Go.Proofs.Ytacobmnghdibaaa.wireSizes
open Go.ChangeShapes Go.WideShapes Go.ChangeAt Go.RowKit
open Go.Proofs.Ytacobmnghdibaaa
set_option linter.unusedVariables false
set_option linter.unusedSimpArgs false

set_option maxHeartbeats 2000000 in
set_option maxRecDepth 100000 in
theorem walk (n : Nat) (hn : n < 18446744073709551616) (A : Option Addr) (k c : Nat) (xs : List Nat) (w : World) (HL : Lim w A k c xs) (h l : Nat) (hh : h < 18446744073709551616) (hl : l < 18446744073709551616) : Calls Try.prog 7 #[.int .u64 (n : Int), .slice A k c, .agg #[.int .u64 (h : Int), .int .u64 (l : Int)]] w fun e w' => e = .returned (.bool true) ∧ Below w.heap.size w w' := by
  have LX := HL.len
  have ET : (natT xs).size = 0 ∧ (natT xs).toList = [] ∨ (¬ (natT xs).toList = [] ∧ (natT xs).size = 4 * k + 1 ∧ k ≤ 64) := by
    by_cases nt : Nt xs
    · right
      have hk : k ≤ 64 := by have := nt.1; omega
      have sz : (natT xs).size = 4 * k + 1 := by
        rw [natT_yes nt, bs_size, List.length_append, lbs_len, LX, enc_low (show k < 128 by omega)]
        simp; omega
      refine ⟨fun e => ?_, sz, hk⟩
      rw [ByteArray.toList_eq] at e
      have := congrArg List.length e
      have e2 : (natT xs).data.toList.length = (natT xs).size := L_len (natT xs)
      rw [e2, sz] at this
      simp at this
    · left
      rw [natT_no nt]
      exact ⟨rfl, by rw [ByteArray.toList_eq]⟩
  have KA := Lib.hid (fun W => wNumber_any n hn W)
  have KN : Hid (∀ W, Below w.heap.size w W → _) := fun W hW => wNat_any (HL.next hW)
  have KW := Lib.hid (fun W => wWide_any h l hh hl W)
  have KF := Lib.hid awake8_any
  have SW : (bs (leb l 8 ++ leb h 8)).size = 16 := by rw [bs_size, List.length_append, leb_len, leb_len]
  have SN : (bs (enc n)).size = (enc n).length := bs_size _
  have LE := enc_ten hn
  generalize natT xs = t at *
  generalize bs (leb l 8 ++ leb h 8) = tw at *
  have B0 : Below w.heap.size w (w.alloc (.cells #[.int .u64 (h : Int), .int .u64 (l : Int)] 28)) := below_al (Below.refl _ _) _
  have Q := Box.new w #[.int .u64 (h : Int), .int .u64 (l : Int)] 28
  obtain ⟨q, hq⟩ : ∃ q, w.heap.size = q := ⟨_, rfl⟩
  rw [hq] at Q
  have HE : Hid (1 + (enc n).length = (enc n).length + 1) := Nat.add_comm _ _
  have HLE := Lib.hid LE
  obtain ⟨tn, htn⟩ : ∃ t, t = bs (enc n) := ⟨_, rfl⟩
  rw [← htn] at KA SN
  clear HL LX hh hl htn
  go_enter Try.func7, Try.ntmps7
  go_wp2_with fail
  clear hq
  generalize w.alloc (.cells #[.int .u64 (h : Int), .int .u64 (l : Int)] 28) = W at *
  go_loopg [7, 8] n (fun q s7 s8 wr => ∃ z : Nat, s7 = .int .i64 (z : Int) ∧ s8 = .int .u64 (q : Int) ∧ q < 18446744073709551616 ∧ Hid (z + (enc q).length = (enc n).length + 1) ∧ W = wr)
  case atStart => exact ⟨1, rfl, rfl, hn, HE, rfl⟩
  case round =>
    obtain ⟨z, rfl, rfl, hm, he, rfl⟩ := hrel
    obtain ⟨m, rfl⟩ : ∃ m, m = gk := ⟨_, rfl⟩
    have p := enc_pos m
    have zb : z ≤ 11 := by have := he.out; omega
    by_cases hs : m < 128
    · have h1 : ¬ (127 : Int) < m := by omega
      have ez : z = tn.size := by
        have := he.out
        rw [enc_low hs] at this
        simp at this
        omega
      have e1 : ((tn.size : Int) == (z : Int)) = true := by rw [ez]; simp
      clear he p SN hm hs ez
      go_wp2_with fail
      refine (KN.out _ B0).mono ?_
      rintro e W1 ⟨rfl, B1⟩
      replace Q := Q.next B1
      replace B0 := below_step B0 B1
      clear B1
      go_wp2_with fail
      refine (KA.out _).mono ?_
      rintro e W2 ⟨rfl, B1⟩
      replace Q := Q.next B1
      replace B0 := below_step B0 B1
      clear B1
      obtain ⟨q0, q1⟩ := Q.two
      rcases ET with ⟨t0, t1⟩ | ⟨t1, t2, t3⟩
      · go_wp2_with fail
        refine (KW.out _).mono ?_
        rintro e W3 ⟨rfl, B1⟩
        replace B0 := below_step B0 B1
        clear B1 q0 q1 Q
        go_wp2_with fail
        refine (KF.out _).mono ?_
        rintro e W4 ⟨rfl, B1⟩
        go_wp2_with fail
        go_ret
        exact ⟨rfl, below_step B0 B1⟩
      · have w4 : IntKind.i64.wrap (4 * (k : Int)) = 4 * k := by rw [IntKind.wrap_i64]; omega
        have w5 : IntKind.i64.wrap (4 * (k : Int) + 1) = 4 * k + 1 := by rw [IntKind.wrap_i64]; omega
        have e5 : ((t.size : Int) == 4 * (k : Int) + 1) = true := by rw [t2]; simp
        clear t2
        go_wp2_with fail
        refine (KW.out _).mono ?_
        rintro e W3 ⟨rfl, B1⟩
        replace B0 := below_step B0 B1
        clear B1 q0 q1 Q
        go_wp2_with fail
        refine (KF.out _).mono ?_
        rintro e W4 ⟨rfl, B1⟩
        go_wp2_with fail
        go_ret
        exact ⟨rfl, below_step B0 B1⟩
    · have h1 : (127 : Int) < m := by omega
      have wz : IntKind.i64.wrap ((z : Int) + 1) = ((z + 1 : Nat) : Int) := by rw [IntKind.wrap_i64]; omega
      have HZ : Hid (z + 1 + (enc (m / 128)).length = (enc n).length + 1) := by
        have := he.out
        rw [enc_high hs, List.length_cons] at this
        unfold Hid; omega
      have HM := Lib.hid hs
      clear he p hs
      go_wp2_with fail
      go_roundg (m / 128)
      case measure => have := HM.out; omega
      case rel =>
        go_light
        exact ⟨z + 1, by first | rfl | rw [wz], by go_num, by omega, HZ, rfl⟩

set_option maxRecDepth 100000 in
theorem lifted (os : Os) (started : os.Started) (H : Type) (enc : TypeId × Value → H) :
    ReturnsInHanded {} Try.checked os 7 .any (Rows.wireSizesSpec.pre6 enc Try.prog Try.f7 Rows.wireSizesRow.domain false) (Rows.wireSizesSpec.post enc Try.prog Try.f7 false true false false) := by
  refine returnsInHanded_of_change (C := Try.checked) own started (by kernel_rfl) Try.func7
    (ChangeSpec.witness6 (enc := enc) (C := Try.checked) false ⟨#[], #[.int .u64 0, .slice none 0 0, .agg #[.int .u64 0, .int .u64 0]], []⟩ 8 (by kernel_rfl) (by kernel_rfl) (by kernel_rfl) (by kernel_rfl)) ?_
  intro W base args ds gs before hval0 hW hcnd _
  have hval : ∀ (j : Nat) t v, Try.f7.params[j]? = some t → args[j]? = some v → Value.okWide Try.prog W .any base t v := hval0
  have hW' := hW
  obtain ⟨p, q, hA0, hV, rfl, _, _⟩ := hW
  have hA : DataW.TrodAll enc Try.prog W 0 (fun _ => true) true Try.f7.params.toList args.toList ds p := hA0
  rw [Try.params7] at hA hval
  obtain ⟨v0, v1, v2, d0, d1, d2, p0, p1, p2, rfl, rfl, rfl, h0t, h1t, h2t⟩ := trodAll_three hA
  obtain ⟨rfl, rfl⟩ := trodVars_none hV
  obtain ⟨n0, rfl, hn0⟩ := open_u64 (hval 0 22 v0 rfl rfl) h0t
  obtain ⟨A1, n1, c1, xs1, rfl, hs1⟩ := open_nat (hval 1 24 v1 rfl rfl) h1t
  obtain ⟨x2, y2, rfl, hx2, hy2⟩ := open_wide (hval 2 28 v2 rfl rfl) h2t
  clear hA0 hval0
  simp only [List.append_nil] at hW'
  have hlt : ∀ x ∈ p0 ++ p1 ++ p2, x.block < W.heap.size := fun x hx => by simpa using hW'.lt x (by simpa using hx)
  refine (walk n0 hn0 A1 n1 c1 xs1 W hs1 x2 y2 hx2 hy2).mono fun e W' ⟨he, hbl⟩ => ?_
  subst he
  refine ⟨_, rfl, post_args hW' (fun _ _ _ => trodAll_mk1 (shut_bool Try.underlying4 _)) ?_ (fun _ => rfl) hbl⟩
  have t0 := Below.trod laidOut readable_u64 typed_u64 h0t hbl (fun x hx => hlt x (List.mem_append_left _ (List.mem_append_left _ hx)))
  have t1 := Below.trod laidOut readable_nat typed_nat h1t hbl (fun x hx => hlt x (List.mem_append_left _ (List.mem_append_right _ hx)))
  have t2 := Below.trod laidOut readable_wide typed_wide h2t hbl (fun x hx => hlt x (List.mem_append_right _ hx))
  exact (List.append_assoc p0 p1 p2) ▸ trodAll_mk3 t0 t1 t2

theorem proved : Rows.WireSizesSaid :=
  OpenClaim.holds_of_wide 7 Try.f7 rfl rfl rfl rfl rfl rfl rfl ⟨rfl, rfl, rfl, rfl, rfl⟩ rfl rfl rfl rfl rfl (by kernel_rfl) Try.func7 (by kernel_rfl)
    (of_decide_eq_true (by kernel_rfl)) (by unfold Func.isWrapper; first | (rw [if_pos (by decide +kernel)]; kernel_rfl) | (rw [if_neg (by decide +kernel)]; exact ⟨rfl, rfl⟩))
    (fun os started H enc _ => lifted os started H enc)
#print axioms proved
end Go.Proofs.Ytacobmnghdibaaa.wireSizes
