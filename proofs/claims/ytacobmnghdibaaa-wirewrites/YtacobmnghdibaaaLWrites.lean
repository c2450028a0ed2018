/- For any number, text, limbs, pair of limbs and number of 128 bits the law WireWrites answers true: they are written as the document says, or not at all. No condition. -/
import Derived.Test.YtacobmnghdibaaaJ15
namespace Go.Proofs.Ytacobmnghdibaaa.wireWrites
open Go.ChangeShapes Go.WideShapes Go.ChangeAt Go.RowKit
open Go.Proofs.Ytacobmnghdibaaa
set_option linter.unusedVariables false
set_option linter.unusedSimpArgs false

set_option maxHeartbeats 4000000 in
set_option maxRecDepth 100000 in
theorem few (n : Nat) (hn : n < 18446744073709551616) (s : ByteArray) (A : Option Addr) (k c : Nat) (xs : List Nat) (B : Option Addr) (m d : Nat) (us : List Nat) (B' : Option Addr) (m' d' : Nat) (vs : List Nat) (h l : Nat) (w : World) (HA : Lim w A k c xs) (HU : Lim w B m d us) (HV : Lim w B' m' d' vs) (hh : h < 18446744073709551616) (hl : l < 18446744073709551616) (b : 200 < s.size ∨ 70 < k ∨ ¬ (m ≤ 70 ∧ m' ≤ 70)) : Calls Try.prog 3 #[.int .u64 (n : Int), .string s, .slice A k c, .agg #[.slice B m d, .slice B' m' d'], .agg #[.int .u64 (h : Int), .int .u64 (l : Int)]] w fun e w' => e = .returned (.bool true) ∧ Below w.heap.size w w' := by
  have KF := Lib.hid awake8_any
  have M0 : Below w.heap.size w ((w.alloc (.cells #[.slice B m d, .slice B' m' d'] 26)).alloc (.cells #[.int .u64 (h : Int), .int .u64 (l : Int)] 28)) := below_al (below_al (Below.refl _ _) _) _
  have R := (Box.new w #[.slice B m d, .slice B' m' d'] 26).alloc (.cells #[.int .u64 (h : Int), .int .u64 (l : Int)] 28)
  have Q := Box.new (w.alloc (.cells #[.slice B m d, .slice B' m' d'] 26)) #[.int .u64 (h : Int), .int .u64 (l : Int)] 28
  rw [World.size_alloc] at Q
  obtain ⟨g, hg⟩ : ∃ g, w.heap.size = g := ⟨_, rfl⟩
  rw [hg] at R Q
  obtain ⟨r0, r1⟩ := R.two
  have KS := Lib.hid (fun (hb : ¬ (m ≤ 70 ∧ m' ≤ 70)) => small3_no B B' m d m' d' ((w.alloc (.cells #[.slice B m d, .slice B' m' d'] 26)).alloc (.cells #[.int .u64 (h : Int), .int .u64 (l : Int)] 28)) hb)
  have c1 : (200 : Int) < s.size ∨ (¬ (200 : Int) < s.size ∧ (70 : Int) < k) ∨ (¬ (200 : Int) < s.size ∧ ¬ (70 : Int) < k ∧ Hid (¬ (m ≤ 70 ∧ m' ≤ 70))) := by
    by_cases a1 : 200 < s.size
    · exact Or.inl (by omega)
    · by_cases a2 : 70 < k
      · exact Or.inr (Or.inl ⟨by omega, by omega⟩)
      · exact Or.inr (Or.inr ⟨by omega, by omega, (b.resolve_left a1).resolve_left a2⟩)
  clear b
  rcases c1 with i1 | ⟨i1, i2⟩ | ⟨i1, i2, i3⟩
  · clear KS
    go_enter Try.func3, Try.ntmps3
    go_wp2_with fail
    clear hg
    refine (KF.out _).mono ?_
    rintro e y ⟨rfl, hy⟩
    go_wp2_with fail
    go_ret
    exact ⟨rfl, below_step M0 hy⟩
  · clear KS
    go_enter Try.func3, Try.ntmps3
    go_wp2_with fail
    clear hg
    refine (KF.out _).mono ?_
    rintro e y ⟨rfl, hy⟩
    go_wp2_with fail
    go_ret
    exact ⟨rfl, below_step M0 hy⟩
  · have KS := Lib.hid (KS.out i3.out)
    go_enter Try.func3, Try.ntmps3
    go_wp2_with fail
    clear hg
    refine KS.out.mono ?_
    rintro e z ⟨rfl, hz⟩
    go_wp2_with fail
    refine (KF.out _).mono ?_
    rintro e y ⟨rfl, hy⟩
    go_wp2_with fail
    go_ret
    exact ⟨rfl, below_step M0 (below_step hz hy)⟩
set_option maxHeartbeats 8000000 in
set_option maxRecDepth 100000 in
theorem mainYY (n : Nat) (hn : n < 18446744073709551616) (s : ByteArray) (A : Option Addr) (k c : Nat) (xs : List Nat) (B : Option Addr) (m d : Nat) (us : List Nat) (B' : Option Addr) (m' d' : Nat) (vs : List Nat) (h l : Nat) (w : World) (HA : Lim w A k c xs) (HU : Lim w B m d us) (HV : Lim w B' m' d' vs) (hh : h < 18446744073709551616) (hl : l < 18446744073709551616) (z1 : s.size ≤ 200) (z2 : k ≤ 70) (z3 : m ≤ 70) (z4 : m' ≤ 70) (nt : Nt xs) (fr : Fr us vs) : Calls Try.prog 3 #[.int .u64 (n : Int), .string s, .slice A k c, .agg #[.slice B m d, .slice B' m' d'], .agg #[.int .u64 (h : Int), .int .u64 (l : Int)]] w fun e w' => e = .returned (.bool true) ∧ Below w.heap.size w w' := by
  have KF := Lib.hid awake8_any
  have M0 : Below w.heap.size w ((w.alloc (.cells #[.slice B m d, .slice B' m' d'] 26)).alloc (.cells #[.int .u64 (h : Int), .int .u64 (l : Int)] 28)) := below_al (below_al (Below.refl _ _) _) _
  have R := (Box.new w #[.slice B m d, .slice B' m' d'] 26).alloc (.cells #[.int .u64 (h : Int), .int .u64 (l : Int)] 28)
  have Q := Box.new (w.alloc (.cells #[.slice B m d, .slice B' m' d'] 26)) #[.int .u64 (h : Int), .int .u64 (l : Int)] 28
  rw [World.size_alloc] at Q
  obtain ⟨g, hg⟩ : ∃ g, w.heap.size = g := ⟨_, rfl⟩
  rw [hg] at R Q
  obtain ⟨r0, r1⟩ := R.two
  have i1 : ¬ (200 : Int) < s.size := by omega
  have i2 : ¬ (70 : Int) < k := by omega
  have KS := Lib.hid (small3_yes B B' m d m' d' ((w.alloc (.cells #[.slice B m d, .slice B' m' d'] 26)).alloc (.cells #[.int .u64 (h : Int), .int .u64 (l : Int)] 28)) z3 z4)
  have wz : IntKind.u64.wrap (s.size : Int) = s.size := by rw [IntKind.wrap_u64]; omega
  have HAH := Lib.hid HA; have HUH := Lib.hid HU; have HVH := Lib.hid HV
  have P14 := Lib.hid (fun W => wNumber_any n hn W)
  have P15 := Lib.hid (fun W => refNumber_any n hn W)
  have P15s := Lib.hid (fun W => refNumber_any s.size (by omega) W)
  have P16 := Lib.hid (fun W => wText_any s (by omega) W)
  have P19 := Lib.hid (fun W => wWide_any h l hh hl W)
  have P20 := Lib.hid (fun W => refWide_any h l hh hl W)
  have E16 : bs (enc s.size) ++ s = bs (enc s.size ++ L s) := L_inj (by rw [L_app, L_bs, L_bs])
  have sz16 : (bs (enc s.size)).size ≤ 10 := by rw [bs_size]; exact enc_ten (by omega)
  rw [← E16] at P16
  generalize bs (enc n) = e1 at *
  generalize bs (enc s.size) = e2 at *
  generalize bs (leb l 8 ++ leb h 8) = e3 at *
  have hadd : ∀ W : World, (Op.stringOp .add e2 s).run Try.prog W = .ok (.string (e2 ++ s)) W := fun W => run_string_add_sum W e2 s (by omega)
  have hle : ¬ (9223372036854775807 < e2.size + s.size) := by omega
  have R11 : Hid (∀ W, Below w.heap.size w W → _) := fun W hW => refRight_any (HAH.out.next hW)
  have P17 : Hid (∀ W, Below w.heap.size w W → _) := fun W hW => wNat_any (HAH.out.next hW)
  have R13 : Hid (∀ W, Below w.heap.size w W → _) := fun W hW => right3_any (HUH.out.next hW) (HVH.out.next hW)
  have P18 : Hid (∀ W, Below w.heap.size w W → _) := fun W hW => wRat_any (HUH.out.next hW) (HVH.out.next hW)
  rw [ntB_yes nt] at R11
  rw [frB_yes fr] at R13
  have R12 : Hid (∀ W, Below w.heap.size w W → _) := fun W hW => refNat_any (HAH.out.next hW) (by omega)
  rw [natT_yes nt] at P17
  generalize bs (natS xs) = e4 at *
  have R12u : Hid (∀ W, Below w.heap.size w W → _) := fun W hW => refNat_any (HUH.out.next hW) (by omega)
  have R12v : Hid (∀ W, Below w.heap.size w W → _) := fun W hW => refNat_any (HVH.out.next hW) (by omega)
  have E18 : bs (natS us) ++ bs (natS vs) = bs (natS us ++ natS vs) := L_inj (by rw [L_app, L_bs, L_bs, L_bs])
  have su : (bs (natS us)).size ≤ 266 := by rw [bs_size]; exact natS_len fr.1
  have sv : (bs (natS vs)).size ≤ 266 := by rw [bs_size]; exact natS_len fr.2.1
  rw [ratT_yes fr, ← E18] at P18
  generalize bs (natS us) = e5 at *
  generalize bs (natS vs) = e6 at *
  have hadd2 : ∀ W : World, (Op.stringOp .add e5 e6).run Try.prog W = .ok (.string (e5 ++ e6)) W := fun W => run_string_add_sum W e5 e6 (by omega)
  have hle2 : ¬ (9223372036854775807 < e5.size + e6.size) := by omega
  clear E18 su sv
  clear E16 sz16 HA HU HV hn hh hl nt fr z1 z2 z3 z4 HAH HUH HVH
  go_enter Try.func3, Try.ntmps3
  go_wp2_with fail
  clear hg r0 r1
  generalize (w.alloc (.cells #[.slice B m d, .slice B' m' d'] 26)).alloc (.cells #[.int .u64 (h : Int), .int .u64 (l : Int)] 28) = V at *
  refine KS.out.mono ?_
  rintro e V1 ⟨rfl, B1⟩
  replace M0 := below_step M0 B1
  replace R := R.next B1
  replace Q := Q.next B1
  clear B1
  go_wp2_with fail
  refine (R11.out _ M0).mono ?_
  rintro e z ⟨rfl, rfl⟩
  go_wp2_with fail
  refine (R12.out _ M0).mono ?_
  rintro e V2 ⟨rfl, B1⟩
  replace M0 := below_step M0 B1
  replace R := R.next B1
  replace Q := Q.next B1
  clear B1
  obtain ⟨r0, r1⟩ := R.two
  go_wp2_with fail
  clear r0 r1
  refine (R13.out _ M0).mono ?_
  rintro e V3 ⟨rfl, B1⟩
  replace M0 := below_step M0 B1
  replace R := R.next B1
  replace Q := Q.next B1
  clear B1
  obtain ⟨r0, r1⟩ := R.two
  obtain ⟨q0, q1⟩ := Q.two
  have MH := Lib.hid M0
  go_upto_region 7 with fail
  go_cut [12] (fun sc wx => sc = .string (e5 ++ e6) ∧ Below V3.heap.size V3 wx)
  case first =>
    go_region_held3 (fun w' => w'.cell? ⟨g, 0, none⟩ = some (.slice B m d) ∧ w'.cell? ⟨g, 1, none⟩ = some (.slice B' m' d'))
      ((refine ⟨?_, ?_⟩ <;> (repeat (first | with_reducible exact r0 | with_reducible exact r1 | with_reducible refine keep_drew ?_ | with_reducible refine keep_cell (by assumption) ?_))))
      (first
        | (go_at_call 12; (with_reducible refine (R12u.out _ ?_).mono ?_); (· refine below_step MH.out ?_; repeat (first | with_reducible exact (Below.refl _ _).drew | refine below_step ?_ (by assumption))); rintro e z ⟨rfl, BZ⟩)
        | (go_at_call 12; (with_reducible refine (R12v.out _ ?_).mono ?_); (· refine below_step MH.out ?_; repeat (first | with_reducible exact (Below.refl _ _).drew | refine below_step ?_ (by assumption))); rintro e z ⟨rfl, BZ⟩))
    all_goals go_wp2_with fail
    all_goals go_meet
    all_goals go_light
    all_goals refine ⟨rfl, ?_⟩
    all_goals (repeat (first | with_reducible exact (Below.refl _ _).drew | refine below_step ?_ (by assumption)))
  case rest =>
  obtain ⟨rfl, BR⟩ := hcut
  replace R := R.next BR
  replace Q := Q.next BR
  have MH := Lib.hid (below_step MH.out BR)
  clear BR M0 r0 r1 q0 q1
  obtain ⟨r0, r1⟩ := R.two
  obtain ⟨q0, q1⟩ := Q.two
  generalize e5 ++ e6 = e7 at *
  clear R Q
  go_upto_region 8 with fail
  go_region_held3 (fun w' => w'.cell? ⟨g, 0, none⟩ = some (.slice B m d) ∧ w'.cell? ⟨g, 1, none⟩ = some (.slice B' m' d') ∧ w'.cell? ⟨g + 1, 0, none⟩ = some (.int .u64 (h : Int)) ∧ w'.cell? ⟨g + 1, 1, none⟩ = some (.int .u64 (l : Int)))
    ((refine ⟨?_, ?_, ?_, ?_⟩ <;> (repeat (first | with_reducible exact r0 | with_reducible exact r1 | with_reducible exact q0 | with_reducible exact q1 | with_reducible refine keep_drew ?_ | with_reducible refine keep_cell (by assumption) ?_))))
    (first
      | (go_at_call 14; (with_reducible refine (P14.out _).mono ?_); rintro e z ⟨rfl, BZ⟩)
      | (go_at_call 15; (with_reducible refine (P15.out _).mono ?_); rintro e z ⟨rfl, BZ⟩)
      | (go_at_call 15; (with_reducible refine (P15s.out _).mono ?_); rintro e z ⟨rfl, BZ⟩)
      | (go_at_call 16; (with_reducible refine (P16.out _).mono ?_); rintro e z ⟨rfl, BZ⟩)
      | (go_at_call 17; (with_reducible refine (P17.out _ ?_).mono ?_); (· refine below_step MH.out ?_; repeat (first | with_reducible exact (Below.refl _ _).drew | refine below_step ?_ (by assumption))); rintro e z ⟨rfl, BZ⟩)
      | (go_at_call 18; (with_reducible refine (P18.out _ ?_).mono ?_); (· refine below_step MH.out ?_; repeat (first | with_reducible exact (Below.refl _ _).drew | refine below_step ?_ (by assumption))); rintro e z ⟨rfl, BZ⟩)
      | (go_at_call 19; (with_reducible refine (P19.out _).mono ?_); rintro e z ⟨rfl, BZ⟩)
      | (go_at_call 20; (with_reducible refine (P20.out _).mono ?_); rintro e z ⟨rfl, BZ⟩)
      | (go_at_call 10; (with_reducible refine (KF.out _).mono ?_); rintro e z ⟨rfl, BZ⟩))
  all_goals go_wp2_with fail
  all_goals go_ret
  all_goals refine ⟨rfl, below_step MH.out ?_⟩
  all_goals (repeat (first | with_reducible exact (Below.refl _ _).drew | refine below_step ?_ (by assumption)))
set_option maxHeartbeats 8000000 in
set_option maxRecDepth 100000 in
theorem mainYN (n : Nat) (hn : n < 18446744073709551616) (s : ByteArray) (A : Option Addr) (k c : Nat) (xs : List Nat) (B : Option Addr) (m d : Nat) (us : List Nat) (B' : Option Addr) (m' d' : Nat) (vs : List Nat) (h l : Nat) (w : World) (HA : Lim w A k c xs) (HU : Lim w B m d us) (HV : Lim w B' m' d' vs) (hh : h < 18446744073709551616) (hl : l < 18446744073709551616) (z1 : s.size ≤ 200) (z2 : k ≤ 70) (z3 : m ≤ 70) (z4 : m' ≤ 70) (nt : Nt xs) (fr : ¬ Fr us vs) : Calls Try.prog 3 #[.int .u64 (n : Int), .string s, .slice A k c, .agg #[.slice B m d, .slice B' m' d'], .agg #[.int .u64 (h : Int), .int .u64 (l : Int)]] w fun e w' => e = .returned (.bool true) ∧ Below w.heap.size w w' := by
  have KF := Lib.hid awake8_any
  have M0 : Below w.heap.size w ((w.alloc (.cells #[.slice B m d, .slice B' m' d'] 26)).alloc (.cells #[.int .u64 (h : Int), .int .u64 (l : Int)] 28)) := below_al (below_al (Below.refl _ _) _) _
  have R := (Box.new w #[.slice B m d, .slice B' m' d'] 26).alloc (.cells #[.int .u64 (h : Int), .int .u64 (l : Int)] 28)
  have Q := Box.new (w.alloc (.cells #[.slice B m d, .slice B' m' d'] 26)) #[.int .u64 (h : Int), .int .u64 (l : Int)] 28
  rw [World.size_alloc] at Q
  obtain ⟨g, hg⟩ : ∃ g, w.heap.size = g := ⟨_, rfl⟩
  rw [hg] at R Q
  obtain ⟨r0, r1⟩ := R.two
  have i1 : ¬ (200 : Int) < s.size := by omega
  have i2 : ¬ (70 : Int) < k := by omega
  have KS := Lib.hid (small3_yes B B' m d m' d' ((w.alloc (.cells #[.slice B m d, .slice B' m' d'] 26)).alloc (.cells #[.int .u64 (h : Int), .int .u64 (l : Int)] 28)) z3 z4)
  have wz : IntKind.u64.wrap (s.size : Int) = s.size := by rw [IntKind.wrap_u64]; omega
  have HAH := Lib.hid HA; have HUH := Lib.hid HU; have HVH := Lib.hid HV
  have P14 := Lib.hid (fun W => wNumber_any n hn W)
  have P15 := Lib.hid (fun W => refNumber_any n hn W)
  have P15s := Lib.hid (fun W => refNumber_any s.size (by omega) W)
  have P16 := Lib.hid (fun W => wText_any s (by omega) W)
  have P19 := Lib.hid (fun W => wWide_any h l hh hl W)
  have P20 := Lib.hid (fun W => refWide_any h l hh hl W)
  have E16 : bs (enc s.size) ++ s = bs (enc s.size ++ L s) := L_inj (by rw [L_app, L_bs, L_bs])
  have sz16 : (bs (enc s.size)).size ≤ 10 := by rw [bs_size]; exact enc_ten (by omega)
  rw [← E16] at P16
  generalize bs (enc n) = e1 at *
  generalize bs (enc s.size) = e2 at *
  generalize bs (leb l 8 ++ leb h 8) = e3 at *
  have hadd : ∀ W : World, (Op.stringOp .add e2 s).run Try.prog W = .ok (.string (e2 ++ s)) W := fun W => run_string_add_sum W e2 s (by omega)
  have hle : ¬ (9223372036854775807 < e2.size + s.size) := by omega
  have R11 : Hid (∀ W, Below w.heap.size w W → _) := fun W hW => refRight_any (HAH.out.next hW)
  have P17 : Hid (∀ W, Below w.heap.size w W → _) := fun W hW => wNat_any (HAH.out.next hW)
  have R13 : Hid (∀ W, Below w.heap.size w W → _) := fun W hW => right3_any (HUH.out.next hW) (HVH.out.next hW)
  have P18 : Hid (∀ W, Below w.heap.size w W → _) := fun W hW => wRat_any (HUH.out.next hW) (HVH.out.next hW)
  rw [ntB_yes nt] at R11
  rw [frB_no fr] at R13
  have R12 : Hid (∀ W, Below w.heap.size w W → _) := fun W hW => refNat_any (HAH.out.next hW) (by omega)
  rw [natT_yes nt] at P17
  generalize bs (natS xs) = e4 at *
  rw [ratT_no fr] at P18
  clear E16 sz16 HA HU HV hn hh hl nt fr z1 z2 z3 z4 HAH HUH HVH
  go_enter Try.func3, Try.ntmps3
  go_wp2_with fail
  clear hg r0 r1
  generalize (w.alloc (.cells #[.slice B m d, .slice B' m' d'] 26)).alloc (.cells #[.int .u64 (h : Int), .int .u64 (l : Int)] 28) = V at *
  refine KS.out.mono ?_
  rintro e V1 ⟨rfl, B1⟩
  replace M0 := below_step M0 B1
  replace R := R.next B1
  replace Q := Q.next B1
  clear B1
  go_wp2_with fail
  refine (R11.out _ M0).mono ?_
  rintro e z ⟨rfl, rfl⟩
  go_wp2_with fail
  refine (R12.out _ M0).mono ?_
  rintro e V2 ⟨rfl, B1⟩
  replace M0 := below_step M0 B1
  replace R := R.next B1
  replace Q := Q.next B1
  clear B1
  obtain ⟨r0, r1⟩ := R.two
  go_wp2_with fail
  clear r0 r1
  refine (R13.out _ M0).mono ?_
  rintro e V3 ⟨rfl, B1⟩
  replace M0 := below_step M0 B1
  replace R := R.next B1
  replace Q := Q.next B1
  clear B1
  obtain ⟨r0, r1⟩ := R.two
  obtain ⟨q0, q1⟩ := Q.two
  have MH := Lib.hid M0
  clear R Q
  go_upto_region 8 with fail
  go_region_held3 (fun w' => w'.cell? ⟨g, 0, none⟩ = some (.slice B m d) ∧ w'.cell? ⟨g, 1, none⟩ = some (.slice B' m' d') ∧ w'.cell? ⟨g + 1, 0, none⟩ = some (.int .u64 (h : Int)) ∧ w'.cell? ⟨g + 1, 1, none⟩ = some (.int .u64 (l : Int)))
    ((refine ⟨?_, ?_, ?_, ?_⟩ <;> (repeat (first | with_reducible exact r0 | with_reducible exact r1 | with_reducible exact q0 | with_reducible exact q1 | with_reducible refine keep_drew ?_ | with_reducible refine keep_cell (by assumption) ?_))))
    (first
      | (go_at_call 14; (with_reducible refine (P14.out _).mono ?_); rintro e z ⟨rfl, BZ⟩)
      | (go_at_call 15; (with_reducible refine (P15.out _).mono ?_); rintro e z ⟨rfl, BZ⟩)
      | (go_at_call 15; (with_reducible refine (P15s.out _).mono ?_); rintro e z ⟨rfl, BZ⟩)
      | (go_at_call 16; (with_reducible refine (P16.out _).mono ?_); rintro e z ⟨rfl, BZ⟩)
      | (go_at_call 17; (with_reducible refine (P17.out _ ?_).mono ?_); (· refine below_step MH.out ?_; repeat (first | with_reducible exact (Below.refl _ _).drew | refine below_step ?_ (by assumption))); rintro e z ⟨rfl, BZ⟩)
      | (go_at_call 18; (with_reducible refine (P18.out _ ?_).mono ?_); (· refine below_step MH.out ?_; repeat (first | with_reducible exact (Below.refl _ _).drew | refine below_step ?_ (by assumption))); rintro e z ⟨rfl, BZ⟩)
      | (go_at_call 19; (with_reducible refine (P19.out _).mono ?_); rintro e z ⟨rfl, BZ⟩)
      | (go_at_call 20; (with_reducible refine (P20.out _).mono ?_); rintro e z ⟨rfl, BZ⟩)
      | (go_at_call 10; (with_reducible refine (KF.out _).mono ?_); rintro e z ⟨rfl, BZ⟩))
  all_goals go_wp2_with fail
  all_goals go_ret
  all_goals refine ⟨rfl, below_step MH.out ?_⟩
  all_goals (repeat (first | with_reducible exact (Below.refl _ _).drew | refine below_step ?_ (by assumption)))
set_option maxHeartbeats 8000000 in
set_option maxRecDepth 100000 in
theorem mainNY (n : Nat) (hn : n < 18446744073709551616) (s : ByteArray) (A : Option Addr) (k c : Nat) (xs : List Nat) (B : Option Addr) (m d : Nat) (us : List Nat) (B' : Option Addr) (m' d' : Nat) (vs : List Nat) (h l : Nat) (w : World) (HA : Lim w A k c xs) (HU : Lim w B m d us) (HV : Lim w B' m' d' vs) (hh : h < 18446744073709551616) (hl : l < 18446744073709551616) (z1 : s.size ≤ 200) (z2 : k ≤ 70) (z3 : m ≤ 70) (z4 : m' ≤ 70) (nt : ¬ Nt xs) (fr : Fr us vs) : Calls Try.prog 3 #[.int .u64 (n : Int), .string s, .slice A k c, .agg #[.slice B m d, .slice B' m' d'], .agg #[.int .u64 (h : Int), .int .u64 (l : Int)]] w fun e w' => e = .returned (.bool true) ∧ Below w.heap.size w w' := by
  have KF := Lib.hid awake8_any
  have M0 : Below w.heap.size w ((w.alloc (.cells #[.slice B m d, .slice B' m' d'] 26)).alloc (.cells #[.int .u64 (h : Int), .int .u64 (l : Int)] 28)) := below_al (below_al (Below.refl _ _) _) _
  have R := (Box.new w #[.slice B m d, .slice B' m' d'] 26).alloc (.cells #[.int .u64 (h : Int), .int .u64 (l : Int)] 28)
  have Q := Box.new (w.alloc (.cells #[.slice B m d, .slice B' m' d'] 26)) #[.int .u64 (h : Int), .int .u64 (l : Int)] 28
  rw [World.size_alloc] at Q
  obtain ⟨g, hg⟩ : ∃ g, w.heap.size = g := ⟨_, rfl⟩
  rw [hg] at R Q
  obtain ⟨r0, r1⟩ := R.two
  have i1 : ¬ (200 : Int) < s.size := by omega
  have i2 : ¬ (70 : Int) < k := by omega
  have KS := Lib.hid (small3_yes B B' m d m' d' ((w.alloc (.cells #[.slice B m d, .slice B' m' d'] 26)).alloc (.cells #[.int .u64 (h : Int), .int .u64 (l : Int)] 28)) z3 z4)
  have wz : IntKind.u64.wrap (s.size : Int) = s.size := by rw [IntKind.wrap_u64]; omega
  have HAH := Lib.hid HA; have HUH := Lib.hid HU; have HVH := Lib.hid HV
  have P14 := Lib.hid (fun W => wNumber_any n hn W)
  have P15 := Lib.hid (fun W => refNumber_any n hn W)
  have P15s := Lib.hid (fun W => refNumber_any s.size (by omega) W)
  have P16 := Lib.hid (fun W => wText_any s (by omega) W)
  have P19 := Lib.hid (fun W => wWide_any h l hh hl W)
  have P20 := Lib.hid (fun W => refWide_any h l hh hl W)
  have E16 : bs (enc s.size) ++ s = bs (enc s.size ++ L s) := L_inj (by rw [L_app, L_bs, L_bs])
  have sz16 : (bs (enc s.size)).size ≤ 10 := by rw [bs_size]; exact enc_ten (by omega)
  rw [← E16] at P16
  generalize bs (enc n) = e1 at *
  generalize bs (enc s.size) = e2 at *
  generalize bs (leb l 8 ++ leb h 8) = e3 at *
  have hadd : ∀ W : World, (Op.stringOp .add e2 s).run Try.prog W = .ok (.string (e2 ++ s)) W := fun W => run_string_add_sum W e2 s (by omega)
  have hle : ¬ (9223372036854775807 < e2.size + s.size) := by omega
  have R11 : Hid (∀ W, Below w.heap.size w W → _) := fun W hW => refRight_any (HAH.out.next hW)
  have P17 : Hid (∀ W, Below w.heap.size w W → _) := fun W hW => wNat_any (HAH.out.next hW)
  have R13 : Hid (∀ W, Below w.heap.size w W → _) := fun W hW => right3_any (HUH.out.next hW) (HVH.out.next hW)
  have P18 : Hid (∀ W, Below w.heap.size w W → _) := fun W hW => wRat_any (HUH.out.next hW) (HVH.out.next hW)
  rw [ntB_no nt] at R11
  rw [frB_yes fr] at R13
  rw [natT_no nt] at P17
  have R12u : Hid (∀ W, Below w.heap.size w W → _) := fun W hW => refNat_any (HUH.out.next hW) (by omega)
  have R12v : Hid (∀ W, Below w.heap.size w W → _) := fun W hW => refNat_any (HVH.out.next hW) (by omega)
  have E18 : bs (natS us) ++ bs (natS vs) = bs (natS us ++ natS vs) := L_inj (by rw [L_app, L_bs, L_bs, L_bs])
  have su : (bs (natS us)).size ≤ 266 := by rw [bs_size]; exact natS_len fr.1
  have sv : (bs (natS vs)).size ≤ 266 := by rw [bs_size]; exact natS_len fr.2.1
  rw [ratT_yes fr, ← E18] at P18
  generalize bs (natS us) = e5 at *
  generalize bs (natS vs) = e6 at *
  have hadd2 : ∀ W : World, (Op.stringOp .add e5 e6).run Try.prog W = .ok (.string (e5 ++ e6)) W := fun W => run_string_add_sum W e5 e6 (by omega)
  have hle2 : ¬ (9223372036854775807 < e5.size + e6.size) := by omega
  clear E18 su sv
  clear E16 sz16 HA HU HV hn hh hl nt fr z1 z2 z3 z4 HAH HUH HVH
  go_enter Try.func3, Try.ntmps3
  go_wp2_with fail
  clear hg r0 r1
  generalize (w.alloc (.cells #[.slice B m d, .slice B' m' d'] 26)).alloc (.cells #[.int .u64 (h : Int), .int .u64 (l : Int)] 28) = V at *
  refine KS.out.mono ?_
  rintro e V1 ⟨rfl, B1⟩
  replace M0 := below_step M0 B1
  replace R := R.next B1
  replace Q := Q.next B1
  clear B1
  go_wp2_with fail
  refine (R11.out _ M0).mono ?_
  rintro e z ⟨rfl, rfl⟩
  obtain ⟨r0, r1⟩ := R.two
  go_wp2_with fail
  clear r0 r1
  refine (R13.out _ M0).mono ?_
  rintro e V3 ⟨rfl, B1⟩
  replace M0 := below_step M0 B1
  replace R := R.next B1
  replace Q := Q.next B1
  clear B1
  obtain ⟨r0, r1⟩ := R.two
  obtain ⟨q0, q1⟩ := Q.two
  have MH := Lib.hid M0
  go_upto_region 7 with fail
  go_cut [12] (fun sc wx => sc = .string (e5 ++ e6) ∧ Below V3.heap.size V3 wx)
  case first =>
    go_region_held3 (fun w' => w'.cell? ⟨g, 0, none⟩ = some (.slice B m d) ∧ w'.cell? ⟨g, 1, none⟩ = some (.slice B' m' d'))
      ((refine ⟨?_, ?_⟩ <;> (repeat (first | with_reducible exact r0 | with_reducible exact r1 | with_reducible refine keep_drew ?_ | with_reducible refine keep_cell (by assumption) ?_))))
      (first
        | (go_at_call 12; (with_reducible refine (R12u.out _ ?_).mono ?_); (· refine below_step MH.out ?_; repeat (first | with_reducible exact (Below.refl _ _).drew | refine below_step ?_ (by assumption))); rintro e z ⟨rfl, BZ⟩)
        | (go_at_call 12; (with_reducible refine (R12v.out _ ?_).mono ?_); (· refine below_step MH.out ?_; repeat (first | with_reducible exact (Below.refl _ _).drew | refine below_step ?_ (by assumption))); rintro e z ⟨rfl, BZ⟩))
    all_goals go_wp2_with fail
    all_goals go_meet
    all_goals go_light
    all_goals refine ⟨rfl, ?_⟩
    all_goals (repeat (first | with_reducible exact (Below.refl _ _).drew | refine below_step ?_ (by assumption)))
  case rest =>
  obtain ⟨rfl, BR⟩ := hcut
  replace R := R.next BR
  replace Q := Q.next BR
  have MH := Lib.hid (below_step MH.out BR)
  clear BR M0 r0 r1 q0 q1
  obtain ⟨r0, r1⟩ := R.two
  obtain ⟨q0, q1⟩ := Q.two
  generalize e5 ++ e6 = e7 at *
  clear R Q
  go_upto_region 8 with fail
  go_region_held3 (fun w' => w'.cell? ⟨g, 0, none⟩ = some (.slice B m d) ∧ w'.cell? ⟨g, 1, none⟩ = some (.slice B' m' d') ∧ w'.cell? ⟨g + 1, 0, none⟩ = some (.int .u64 (h : Int)) ∧ w'.cell? ⟨g + 1, 1, none⟩ = some (.int .u64 (l : Int)))
    ((refine ⟨?_, ?_, ?_, ?_⟩ <;> (repeat (first | with_reducible exact r0 | with_reducible exact r1 | with_reducible exact q0 | with_reducible exact q1 | with_reducible refine keep_drew ?_ | with_reducible refine keep_cell (by assumption) ?_))))
    (first
      | (go_at_call 14; (with_reducible refine (P14.out _).mono ?_); rintro e z ⟨rfl, BZ⟩)
      | (go_at_call 15; (with_reducible refine (P15.out _).mono ?_); rintro e z ⟨rfl, BZ⟩)
      | (go_at_call 15; (with_reducible refine (P15s.out _).mono ?_); rintro e z ⟨rfl, BZ⟩)
      | (go_at_call 16; (with_reducible refine (P16.out _).mono ?_); rintro e z ⟨rfl, BZ⟩)
      | (go_at_call 17; (with_reducible refine (P17.out _ ?_).mono ?_); (· refine below_step MH.out ?_; repeat (first | with_reducible exact (Below.refl _ _).drew | refine below_step ?_ (by assumption))); rintro e z ⟨rfl, BZ⟩)
      | (go_at_call 18; (with_reducible refine (P18.out _ ?_).mono ?_); (· refine below_step MH.out ?_; repeat (first | with_reducible exact (Below.refl _ _).drew | refine below_step ?_ (by assumption))); rintro e z ⟨rfl, BZ⟩)
      | (go_at_call 19; (with_reducible refine (P19.out _).mono ?_); rintro e z ⟨rfl, BZ⟩)
      | (go_at_call 20; (with_reducible refine (P20.out _).mono ?_); rintro e z ⟨rfl, BZ⟩)
      | (go_at_call 10; (with_reducible refine (KF.out _).mono ?_); rintro e z ⟨rfl, BZ⟩))
  all_goals go_wp2_with fail
  all_goals go_ret
  all_goals refine ⟨rfl, below_step MH.out ?_⟩
  all_goals (repeat (first | with_reducible exact (Below.refl _ _).drew | refine below_step ?_ (by assumption)))
set_option maxHeartbeats 8000000 in
set_option maxRecDepth 100000 in
theorem mainNN (n : Nat) (hn : n < 18446744073709551616) (s : ByteArray) (A : Option Addr) (k c : Nat) (xs : List Nat) (B : Option Addr) (m d : Nat) (us : List Nat) (B' : Option Addr) (m' d' : Nat) (vs : List Nat) (h l : Nat) (w : World) (HA : Lim w A k c xs) (HU : Lim w B m d us) (HV : Lim w B' m' d' vs) (hh : h < 18446744073709551616) (hl : l < 18446744073709551616) (z1 : s.size ≤ 200) (z2 : k ≤ 70) (z3 : m ≤ 70) (z4 : m' ≤ 70) (nt : ¬ Nt xs) (fr : ¬ Fr us vs) : Calls Try.prog 3 #[.int .u64 (n : Int), .string s, .slice A k c, .agg #[.slice B m d, .slice B' m' d'], .agg #[.int .u64 (h : Int), .int .u64 (l : Int)]] w fun e w' => e = .returned (.bool true) ∧ Below w.heap.size w w' := by
  have KF := Lib.hid awake8_any
  have M0 : Below w.heap.size w ((w.alloc (.cells #[.slice B m d, .slice B' m' d'] 26)).alloc (.cells #[.int .u64 (h : Int), .int .u64 (l : Int)] 28)) := below_al (below_al (Below.refl _ _) _) _
  have R := (Box.new w #[.slice B m d, .slice B' m' d'] 26).alloc (.cells #[.int .u64 (h : Int), .int .u64 (l : Int)] 28)
  have Q := Box.new (w.alloc (.cells #[.slice B m d, .slice B' m' d'] 26)) #[.int .u64 (h : Int), .int .u64 (l : Int)] 28
  rw [World.size_alloc] at Q
  obtain ⟨g, hg⟩ : ∃ g, w.heap.size = g := ⟨_, rfl⟩
  rw [hg] at R Q
  obtain ⟨r0, r1⟩ := R.two
  have i1 : ¬ (200 : Int) < s.size := by omega
  have i2 : ¬ (70 : Int) < k := by omega
  have KS := Lib.hid (small3_yes B B' m d m' d' ((w.alloc (.cells #[.slice B m d, .slice B' m' d'] 26)).alloc (.cells #[.int .u64 (h : Int), .int .u64 (l : Int)] 28)) z3 z4)
  have wz : IntKind.u64.wrap (s.size : Int) = s.size := by rw [IntKind.wrap_u64]; omega
  have HAH := Lib.hid HA; have HUH := Lib.hid HU; have HVH := Lib.hid HV
  have P14 := Lib.hid (fun W => wNumber_any n hn W)
  have P15 := Lib.hid (fun W => refNumber_any n hn W)
  have P15s := Lib.hid (fun W => refNumber_any s.size (by omega) W)
  have P16 := Lib.hid (fun W => wText_any s (by omega) W)
  have P19 := Lib.hid (fun W => wWide_any h l hh hl W)
  have P20 := Lib.hid (fun W => refWide_any h l hh hl W)
  have E16 : bs (enc s.size) ++ s = bs (enc s.size ++ L s) := L_inj (by rw [L_app, L_bs, L_bs])
  have sz16 : (bs (enc s.size)).size ≤ 10 := by rw [bs_size]; exact enc_ten (by omega)
  rw [← E16] at P16
  generalize bs (enc n) = e1 at *
  generalize bs (enc s.size) = e2 at *
  generalize bs (leb l 8 ++ leb h 8) = e3 at *
  have hadd : ∀ W : World, (Op.stringOp .add e2 s).run Try.prog W = .ok (.string (e2 ++ s)) W := fun W => run_string_add_sum W e2 s (by omega)
  have hle : ¬ (9223372036854775807 < e2.size + s.size) := by omega
  have R11 : Hid (∀ W, Below w.heap.size w W → _) := fun W hW => refRight_any (HAH.out.next hW)
  have P17 : Hid (∀ W, Below w.heap.size w W → _) := fun W hW => wNat_any (HAH.out.next hW)
  have R13 : Hid (∀ W, Below w.heap.size w W → _) := fun W hW => right3_any (HUH.out.next hW) (HVH.out.next hW)
  have P18 : Hid (∀ W, Below w.heap.size w W → _) := fun W hW => wRat_any (HUH.out.next hW) (HVH.out.next hW)
  rw [ntB_no nt] at R11
  rw [frB_no fr] at R13
  rw [natT_no nt] at P17
  rw [ratT_no fr] at P18
  clear E16 sz16 HA HU HV hn hh hl nt fr z1 z2 z3 z4 HAH HUH HVH
  go_enter Try.func3, Try.ntmps3
  go_wp2_with fail
  clear hg r0 r1
  generalize (w.alloc (.cells #[.slice B m d, .slice B' m' d'] 26)).alloc (.cells #[.int .u64 (h : Int), .int .u64 (l : Int)] 28) = V at *
  refine KS.out.mono ?_
  rintro e V1 ⟨rfl, B1⟩
  replace M0 := below_step M0 B1
  replace R := R.next B1
  replace Q := Q.next B1
  clear B1
  go_wp2_with fail
  refine (R11.out _ M0).mono ?_
  rintro e z ⟨rfl, rfl⟩
  obtain ⟨r0, r1⟩ := R.two
  go_wp2_with fail
  clear r0 r1
  refine (R13.out _ M0).mono ?_
  rintro e V3 ⟨rfl, B1⟩
  replace M0 := below_step M0 B1
  replace R := R.next B1
  replace Q := Q.next B1
  clear B1
  obtain ⟨r0, r1⟩ := R.two
  obtain ⟨q0, q1⟩ := Q.two
  have MH := Lib.hid M0
  clear R Q
  go_upto_region 8 with fail
  go_region_held3 (fun w' => w'.cell? ⟨g, 0, none⟩ = some (.slice B m d) ∧ w'.cell? ⟨g, 1, none⟩ = some (.slice B' m' d') ∧ w'.cell? ⟨g + 1, 0, none⟩ = some (.int .u64 (h : Int)) ∧ w'.cell? ⟨g + 1, 1, none⟩ = some (.int .u64 (l : Int)))
    ((refine ⟨?_, ?_, ?_, ?_⟩ <;> (repeat (first | with_reducible exact r0 | with_reducible exact r1 | with_reducible exact q0 | with_reducible exact q1 | with_reducible refine keep_drew ?_ | with_reducible refine keep_cell (by assumption) ?_))))
    (first
      | (go_at_call 14; (with_reducible refine (P14.out _).mono ?_); rintro e z ⟨rfl, BZ⟩)
      | (go_at_call 15; (with_reducible refine (P15.out _).mono ?_); rintro e z ⟨rfl, BZ⟩)
      | (go_at_call 15; (with_reducible refine (P15s.out _).mono ?_); rintro e z ⟨rfl, BZ⟩)
      | (go_at_call 16; (with_reducible refine (P16.out _).mono ?_); rintro e z ⟨rfl, BZ⟩)
      | (go_at_call 17; (with_reducible refine (P17.out _ ?_).mono ?_); (· refine below_step MH.out ?_; repeat (first | with_reducible exact (Below.refl _ _).drew | refine below_step ?_ (by assumption))); rintro e z ⟨rfl, BZ⟩)
      | (go_at_call 18; (with_reducible refine (P18.out _ ?_).mono ?_); (· refine below_step MH.out ?_; repeat (first | with_reducible exact (Below.refl _ _).drew | refine below_step ?_ (by assumption))); rintro e z ⟨rfl, BZ⟩)
      | (go_at_call 19; (with_reducible refine (P19.out _).mono ?_); rintro e z ⟨rfl, BZ⟩)
      | (go_at_call 20; (with_reducible refine (P20.out _).mono ?_); rintro e z ⟨rfl, BZ⟩)
      | (go_at_call 10; (with_reducible refine (KF.out _).mono ?_); rintro e z ⟨rfl, BZ⟩))
  all_goals go_wp2_with fail
  all_goals go_ret
  all_goals refine ⟨rfl, below_step MH.out ?_⟩
  all_goals (repeat (first | with_reducible exact (Below.refl _ _).drew | refine below_step ?_ (by assumption)))
theorem walk (n : Nat) (hn : n < 18446744073709551616) (s : ByteArray) (A : Option Addr) (k c : Nat) (xs : List Nat) (B : Option Addr) (m d : Nat) (us : List Nat) (B' : Option Addr) (m' d' : Nat) (vs : List Nat) (h l : Nat) (w : World) (HA : Lim w A k c xs) (HU : Lim w B m d us) (HV : Lim w B' m' d' vs) (hh : h < 18446744073709551616) (hl : l < 18446744073709551616) : Calls Try.prog 3 #[.int .u64 (n : Int), .string s, .slice A k c, .agg #[.slice B m d, .slice B' m' d'], .agg #[.int .u64 (h : Int), .int .u64 (l : Int)]] w fun e w' => e = .returned (.bool true) ∧ Below w.heap.size w w' := by
  by_cases b : 200 < s.size ∨ 70 < k ∨ ¬ (m ≤ 70 ∧ m' ≤ 70)
  · exact few n hn s A k c xs B m d us B' m' d' vs h l w HA HU HV hh hl b
  · have z1 : s.size ≤ 200 := by omega
    have z2 : k ≤ 70 := by omega
    have z3 : m ≤ 70 := by omega
    have z4 : m' ≤ 70 := by omega
    by_cases nt : Nt xs
    · by_cases fr : Fr us vs
      · exact mainYY n hn s A k c xs B m d us B' m' d' vs h l w HA HU HV hh hl z1 z2 z3 z4 nt fr
      · exact mainYN n hn s A k c xs B m d us B' m' d' vs h l w HA HU HV hh hl z1 z2 z3 z4 nt fr
    · by_cases fr : Fr us vs
      · exact mainNY n hn s A k c xs B m d us B' m' d' vs h l w HA HU HV hh hl z1 z2 z3 z4 nt fr
      · exact mainNN n hn s A k c xs B m d us B' m' d' vs h l w HA HU HV hh hl z1 z2 z3 z4 nt fr

set_option maxRecDepth 100000 in
theorem lifted (os : Os) (started : os.Started) (H : Type) (enc : TypeId × Value → H) :
    ReturnsInHanded {} Try.checked os 3 .any (Rows.wireWritesSpec.pre6 enc Try.prog Try.f3 Rows.wireWritesRow.domain false) (Rows.wireWritesSpec.post enc Try.prog Try.f3 false true false false) := by
  refine returnsInHanded_of_change (C := Try.checked) own started (by kernel_rfl) Try.func3
    (ChangeSpec.witness6 (enc := enc) (C := Try.checked) false ⟨#[], #[.int .u64 0, .string ⟨#[]⟩, .slice none 0 0, .agg #[.slice none 0 0, .slice none 0 0], .agg #[.int .u64 0, .int .u64 0]], []⟩ 8 (by kernel_rfl) (by kernel_rfl) (by kernel_rfl) (by kernel_rfl)) ?_
  intro W base args ds gs before hval0 hW hcnd _
  have hval : ∀ (j : Nat) t v, Try.f3.params[j]? = some t → args[j]? = some v → Value.okWide Try.prog W .any base t v := hval0
  have hW' := hW
  obtain ⟨p, q, hA0, hV, rfl, _, _⟩ := hW
  have hA : DataW.TrodAll enc Try.prog W 0 (fun _ => true) true Try.f3.params.toList args.toList ds p := hA0
  rw [Try.params3] at hA hval
  obtain ⟨v0, v1, v2, v3, v4, d0, d1, d2, d3, d4, p0, p1, p2, p3, p4, rfl, rfl, rfl, h0t, h1t, h2t, h3t, h4t⟩ := trodAll_five hA
  obtain ⟨rfl, rfl⟩ := trodVars_none hV
  obtain ⟨n0, rfl, hn0⟩ := open_u64 (hval 0 22 v0 rfl rfl) h0t
  obtain ⟨s1, rfl, -, -, hs1⟩ := Go.ChangeMaps.open_string Try.underlying9 (hval 1 9 v1 rfl rfl) h1t
  obtain ⟨A2, n2, c2, xs2, rfl, hs2⟩ := open_nat (hval 2 24 v2 rfl rfl) h2t
  obtain ⟨A3, n3, c3, xs3, D3, m3, k3, ys3, rfl, hs3, ht3⟩ := open_rat (hval 3 26 v3 rfl rfl) h3t
  obtain ⟨x4, y4, rfl, hx4, hy4⟩ := open_wide (hval 4 28 v4 rfl rfl) h4t
  clear hA0 hval0
  simp only [List.append_nil] at hW'
  have hlt : ∀ x ∈ p0 ++ p1 ++ p2 ++ p3 ++ p4, x.block < W.heap.size := fun x hx => by simpa using hW'.lt x (by simpa using hx)
  refine (walk n0 hn0 s1 A2 n2 c2 xs2 A3 n3 c3 xs3 D3 m3 k3 ys3 x4 y4 W hs2 hs3 ht3 hx4 hy4).mono fun e W' ⟨he, hbl⟩ => ?_
  subst he
  refine ⟨_, rfl, post_args hW' (fun _ _ _ => trodAll_mk1 (shut_bool Try.underlying4 _)) ?_ (fun _ => rfl) hbl⟩
  have t0 := Below.trod laidOut readable_u64 typed_u64 h0t hbl (fun x hx => hlt x (List.mem_append_left _ (List.mem_append_left _ (List.mem_append_left _ (List.mem_append_left _ hx)))))
  have t1 := Below.trod laidOut readable_str typed_str h1t hbl (fun x hx => hlt x (List.mem_append_left _ (List.mem_append_left _ (List.mem_append_left _ (List.mem_append_right _ hx)))))
  have t2 := Below.trod laidOut readable_nat typed_nat h2t hbl (fun x hx => hlt x (List.mem_append_left _ (List.mem_append_left _ (List.mem_append_right _ hx))))
  have t3 := Below.trod laidOut readable_rat typed_rat h3t hbl (fun x hx => hlt x (List.mem_append_left _ (List.mem_append_right _ hx)))
  have t4 := Below.trod laidOut readable_wide typed_wide h4t hbl (fun x hx => hlt x (List.mem_append_right _ hx))
  exact (show p0 ++ (p1 ++ (p2 ++ (p3 ++ p4))) = p0 ++ p1 ++ p2 ++ p3 ++ p4 by simp only [List.append_assoc]) ▸ trodAll_mk5 t0 t1 t2 t3 t4

theorem proved : Rows.WireWritesSaid :=
  OpenClaim.holds_of_wide 3 Try.f3 rfl rfl rfl rfl rfl rfl rfl ⟨rfl, rfl, rfl, rfl, rfl⟩ rfl rfl rfl rfl rfl (by kernel_rfl) Try.func3 (by kernel_rfl)
    (of_decide_eq_true (by kernel_rfl)) (by unfold Func.isWrapper; first | (rw [if_pos (by decide +kernel)]; kernel_rfl) | (rw [if_neg (by decide +kernel)]; exact ⟨rfl, rfl⟩))
    (fun os started H enc _ => lifted os started H enc)
#print axioms proved
end Go.Proofs.Ytacobmnghdibaaa.wireWrites
