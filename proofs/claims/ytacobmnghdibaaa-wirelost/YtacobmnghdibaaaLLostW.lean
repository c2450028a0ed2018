/- For any bytes, place and asks the law WireLost answers true: what is lost stays so. No condition. -/
import Derived.Test.YtacobmnghdibaaaJ15
namespace Go.Proofs.Ytacobmnghdibaaa.wireLost
open Go.ChangeShapes Go.WideShapes Go.ChangeAt Go.RowKit
open Go.Proofs.Ytacobmnghdibaaa
set_option linter.unusedVariables false
set_option linter.unusedSimpArgs false

theorem lost_num {s : ByteArray} {p : Int} {g : Nat} {W : World} (h : Box W g #[.string s, .int .i64 p, .bool true]) (hs : s.size ≤ 281474976710656) : Calls Try.prog 24 #[.pointer (some ⟨g, 0, none⟩), .int .u64 18446744073709551615] W fun e w' => e = .returned (.int .u64 0) ∧ Tk g #[.string s, .int .i64 p, .bool true] W w' := by
  have := rNumber_any h 18446744073709551615 hs
  rw [readN_none (fun x => by cases x.1)] at this
  exact this
theorem lost_txt {s : ByteArray} {p : Int} {g : Nat} {W : World} (h : Box W g #[.string s, .int .i64 p, .bool true]) (hs : s.size ≤ 281474976710656) : Calls Try.prog 25 #[.pointer (some ⟨g, 0, none⟩), .int .i64 1000] W fun e w' => e = .returned (.string ⟨#[]⟩) ∧ Tk g #[.string s, .int .i64 p, .bool true] W w' := by
  have := rText_any h 1000 (by decide) hs
  rw [readT_none (fun x => by cases x.1), textB_none] at this
  exact this
theorem lost_nat {s : ByteArray} {p : Int} {g : Nat} {W : World} (h : Box W g #[.string s, .int .i64 p, .bool true]) (hs : s.size ≤ 281474976710656) : Calls Try.prog 26 #[.pointer (some ⟨g, 0, none⟩)] W fun e w' => ∃ A c, e = .returned (.slice A 0 c) ∧ Tk g #[.string s, .int .i64 p, .bool true] W w' := by
  have := rNat_any h hs
  rw [readA_none (fun x => by cases x.1)] at this
  refine this.mono fun e w' h => ?_
  obtain ⟨A, n, c, rfl, LA, _, T⟩ := h
  obtain rfl : n = 0 := LA.len.symm
  exact ⟨A, c, rfl, T⟩
theorem lost_rat {s : ByteArray} {p : Int} {g : Nat} {W : World} (h : Box W g #[.string s, .int .i64 p, .bool true]) (hs : s.size ≤ 281474976710656) : Calls Try.prog 27 #[.pointer (some ⟨g, 0, none⟩)] W fun e w' => ∃ A c A' c', e = .returned (.agg #[.slice A 0 c, .slice A' 0 c']) ∧ Tk g #[.string s, .int .i64 p, .bool true] W w' := by
  have := rRat_any h hs
  rw [readQ_ratM, if_neg (show ¬ okR s.size p true = true by intro x; cases x)] at this
  refine this.mono fun e w' h => ?_
  obtain ⟨A, n, c, A', n', c', rfl, LA, LB, _, _, T⟩ := h
  obtain rfl : n = 0 := LA.len.symm
  obtain rfl : n' = 0 := LB.len.symm
  exact ⟨A, c, A', c', rfl, T⟩
theorem lost_wide {s : ByteArray} {p : Int} {g : Nat} {W : World} (h : Box W g #[.string s, .int .i64 p, .bool true]) (hs : s.size ≤ 281474976710656) : Calls Try.prog 28 #[.pointer (some ⟨g, 0, none⟩)] W fun e w' => e = .returned (.agg #[.int .u64 0, .int .u64 0]) ∧ Tk g #[.string s, .int .i64 p, .bool true] W w' := by
  have := rWide_any h hs
  rw [readW_none (fun x => by cases x.1), wideB_none] at this
  exact this
theorem lost_done {s : ByteArray} {p : Int} {g : Nat} {W : World} (h : Box W g #[.string s, .int .i64 p, .bool true]) (hs : s.size ≤ 281474976710656) : Calls Try.prog 23 #[.pointer (some ⟨g, 0, none⟩)] W fun e w' => e = .returned (.int .i64 2) ∧ Below W.heap.size W w' :=
  done_any h hs
set_option maxHeartbeats 2000000 in
set_option maxRecDepth 100000 in
theorem walk (s : ByteArray) (p : Int) (A : Option Addr) (n c : Nat) (ks : List (Int × Int)) (w : World) (HK : Asks w A n c ks) : Calls Try.prog 8 #[.string s, .int .i64 p, .slice A n c] w fun e w' => e = .returned (.bool true) ∧ Below w.heap.size w w' := by
  have KF := Lib.hid awake8_any
  clear HK
  by_cases b1 : 600 < s.size
  · have i1 : (600 : Int) < s.size := by omega
    clear b1
    go_enter Try.func8, Try.ntmps8
    go_wp2_with fail
    refine (KF.out _).mono ?_
    rintro e y ⟨rfl, hy⟩
    go_wp2_with fail
    go_ret
    exact ⟨rfl, hy⟩
  have i1 : ¬ (600 : Int) < s.size := by omega
  by_cases b2 : 20 < n
  · have i2 : (20 : Int) < n := by omega
    clear b2
    go_enter Try.func8, Try.ntmps8
    go_wp2_with fail
    refine (KF.out _).mono ?_
    rintro e y ⟨rfl, hy⟩
    go_wp2_with fail
    go_ret
    exact ⟨rfl, hy⟩
  have i2 : ¬ (20 : Int) < n := by omega
  have hs : s.size ≤ 281474976710656 := by omega
  have n9 : n < 9223372036854775807 := by omega
  have M0 := One.new w #[.string s, .int .i64 p, .bool true] 41
  obtain ⟨g, hg⟩ : ∃ g, w.heap.size = g := ⟨_, rfl⟩
  rw [hg] at M0
  have K1 : Hid (∀ W : World, Box W g #[.string s, .int .i64 p, .bool true] → _) := fun W h => lost_num (W := W) h hs
  have K2 : Hid (∀ W : World, Box W g #[.string s, .int .i64 p, .bool true] → _) := fun W h => lost_txt (W := W) h hs
  have K3 : Hid (∀ W : World, Box W g #[.string s, .int .i64 p, .bool true] → _) := fun W h => lost_nat (W := W) h hs
  have K4 : Hid (∀ W : World, Box W g #[.string s, .int .i64 p, .bool true] → _) := fun W h => lost_rat (W := W) h hs
  have K5 : Hid (∀ W : World, Box W g #[.string s, .int .i64 p, .bool true] → _) := fun W h => lost_wide (W := W) h hs
  have K6 : Hid (∀ W : World, Box W g #[.string s, .int .i64 p, .bool true] → _) := fun W h => lost_done (W := W) h hs
  have pp : (p != p) = false := by simp
  clear b1 b2 hs
  go_enter Try.func8, Try.ntmps8
  go_wp2_with fail
  clear hg
  generalize w.alloc (.cells #[.string s, .int .i64 p, .bool true] 41) = W at *
  go_loopg [28] n (fun q s28 wr => ∃ i : Nat, i + q = n ∧ s28 = .int .i64 (i : Int) ∧ One w g #[.string s, .int .i64 p, .bool true] wr)
  case atStart => exact ⟨0, by omega, rfl, M0⟩
  case round =>
    obtain ⟨i, hq, rfl, M⟩ := hrel
    have HQ := Lib.hid hq
    clear M0
    by_cases lt : i < n
    · have il : (i : Int) < n := by omega
      have ew : IntKind.i64.wrap ((i : Int) + 1) = ((i + 1 : Nat) : Int) := by rw [IntKind.wrap_i64]; omega
      clear hq
      go_wp2_with fail
      refine (K1.out _ M.bg).mono ?_
      rintro e Z1 ⟨rfl, T⟩
      replace M := M.tk T
      clear T
      go_wp2_with fail
      refine (K2.out _ M.bg).mono ?_
      rintro e Z2 ⟨rfl, T⟩
      replace M := M.tk T
      clear T
      go_wp2_with fail
      refine (K3.out _ M.bg).mono ?_
      rintro e Z3 ⟨A1, c1, rfl, T⟩
      replace M := M.tk T
      clear T
      go_wp2_with fail
      refine (K4.out _ M.bg).mono ?_
      rintro e Z4 ⟨A2, c2, A3, c3, rfl, T⟩
      replace M := M.tk T
      clear T
      go_wp2_with fail
      obtain ⟨q1, hq1⟩ : ∃ q, Z4.heap.size = q := ⟨_, rfl⟩
      have Q1 := Box.new Z4 #[.slice A2 0 c2, .slice A3 0 c3] 26
      rw [hq1] at Q1 ⊢
      have n1 : Hid (q1 ≠ g) := by have := M.bg.lt; unfold Hid; omega
      replace M := M.next (below_one Z4 (.cells #[.slice A2 0 c2, .slice A3 0 c3] 26))
      clear hq1
      generalize Z4.alloc (.cells #[.slice A2 0 c2, .slice A3 0 c3] 26) = Z5 at *
      refine (K5.out _ M.bg).mono ?_
      rintro e Z6 ⟨rfl, T⟩
      replace M := M.tk T
      replace Q1 := Q1.tk T n1.out
      clear T
      have M9 := Lib.hid (M.next (below_one Z6 (.cells #[.int .u64 0, .int .u64 0] 28)))
      obtain ⟨x0, x1⟩ := (Q1.alloc (.cells #[.int .u64 0, .int .u64 0] 28)).two
      obtain ⟨y0, y1, y2⟩ := M9.out.bg.three
      clear M Q1
      go_wp2_with fail
      go_roundg (gk - 1)
      case measure => have := HQ.out; omega
      case rel =>
        go_light
        exact ⟨i + 1, by have := HQ.out; omega, by first | rfl | rw [ew], M9.out⟩
    · have il : ¬ (i : Int) < n := by omega
      clear hq
      go_wp2_with fail
      refine (K6.out _ M.bg).mono ?_
      rintro e Z1 ⟨rfl, B⟩
      have BB := Lib.hid (below_step M.bl B)
      clear B M
      go_wp2_with fail
      refine (KF.out _).mono ?_
      rintro e Z2 ⟨rfl, B⟩
      go_wp2_with fail
      go_ret
      exact ⟨rfl, below_step BB.out B⟩

set_option maxRecDepth 100000 in
theorem lifted (os : Os) (started : os.Started) (H : Type) (enc : TypeId × Value → H) :
    ReturnsInHanded {} Try.checked os 8 .any (Rows.wireLostSpec.pre6 enc Try.prog Try.f8 Rows.wireLostRow.domain false) (Rows.wireLostSpec.post enc Try.prog Try.f8 false true false false) := by
  refine returnsInHanded_of_change (C := Try.checked) own started (by kernel_rfl) Try.func8
    (ChangeSpec.witness6 (enc := enc) (C := Try.checked) false ⟨#[], #[.string ⟨#[]⟩, .int .i64 0, .slice none 0 0], []⟩ 8 (by kernel_rfl) (by kernel_rfl) (by kernel_rfl) (by kernel_rfl)) ?_
  intro W base args ds gs before hval0 hW hcnd _
  have hval : ∀ (j : Nat) t v, Try.f8.params[j]? = some t → args[j]? = some v → Value.okWide Try.prog W .any base t v := hval0
  have hW' := hW
  obtain ⟨p, q, hA0, hV, rfl, _, _⟩ := hW
  have hA : DataW.TrodAll enc Try.prog W 0 (fun _ => true) true Try.f8.params.toList args.toList ds p := hA0
  rw [Try.params8] at hA hval
  obtain ⟨v0, v1, v2, d0, d1, d2, p0, p1, p2, rfl, rfl, rfl, h0t, h1t, h2t⟩ := trodAll_three hA
  obtain ⟨rfl, rfl⟩ := trodVars_none hV
  obtain ⟨s0, rfl, -, -, hs0⟩ := Go.ChangeMaps.open_string Try.underlying9 (hval 0 9 v0 rfl rfl) h0t
  obtain ⟨x1, rfl, hx1⟩ := open_i64 (hval 1 3 v1 rfl rfl) h1t
  obtain ⟨A2, n2, c2, ks2, rfl, hs2⟩ := open_asks (hval 2 38 v2 rfl rfl) h2t
  clear hA0 hval0
  simp only [List.append_nil] at hW'
  have hlt : ∀ x ∈ p0 ++ p1 ++ p2, x.block < W.heap.size := fun x hx => by simpa using hW'.lt x (by simpa using hx)
  refine (walk s0 x1 A2 n2 c2 ks2 W hs2).mono fun e W' ⟨he, hbl⟩ => ?_
  subst he
  refine ⟨_, rfl, post_args hW' (fun _ _ _ => trodAll_mk1 (shut_bool Try.underlying4 _)) ?_ (fun _ => rfl) hbl⟩
  have t0 := Below.trod laidOut readable_str typed_str h0t hbl (fun x hx => hlt x (List.mem_append_left _ (List.mem_append_left _ hx)))
  have t1 := Below.trod laidOut readable_int typed_int h1t hbl (fun x hx => hlt x (List.mem_append_left _ (List.mem_append_right _ hx)))
  have t2 := Below.trod laidOut readable_asks typed_asks h2t hbl (fun x hx => hlt x (List.mem_append_right _ hx))
  exact (List.append_assoc p0 p1 p2) ▸ trodAll_mk3 t0 t1 t2

theorem proved : Rows.WireLostSaid :=
  OpenClaim.holds_of_wide 8 Try.f8 rfl rfl rfl rfl rfl rfl rfl ⟨rfl, rfl, rfl, rfl, rfl⟩ rfl rfl rfl rfl rfl (by kernel_rfl) Try.func8 (by kernel_rfl)
    (of_decide_eq_true (by kernel_rfl)) (by unfold Func.isWrapper; first | (rw [if_pos (by decide +kernel)]; kernel_rfl) | (rw [if_neg (by decide +kernel)]; exact ⟨rfl, rfl⟩))
    (fun os started H enc _ => lifted os started H enc)
#print axioms proved
end Go.Proofs.Ytacobmnghdibaaa.wireLost
