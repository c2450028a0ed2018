/- For any number, text, limbs, pair of limbs and number of 128 bits the law WireBack answers true: what is written, one behind the other, is read as it was, and all of it. No condition. -/
import Derived.Test.YtacobmnghdibaaaJ15
namespace Go.Proofs.Ytacobmnghdibaaa.wireBack
open Go.ChangeShapes Go.WideShapes Go.ChangeAt Go.RowKit
open Go.Proofs.Ytacobmnghdibaaa
set_option linter.unusedVariables false
set_option linter.unusedSimpArgs false

theorem readQ_back {s : ByteArray} {i : Nat} {us vs : List Nat} {a b : List UInt8} (h : L s = a ++ ((natS us ++ natS vs) ++ b)) (hi : i = a.length) (hf : Fr us vs) (lu : Lo us) (lv' : Lo vs) : readQ s i false = some (us, vs, (natS us).length + (natS vs).length) := by
  have h1 := readA_back (s := s) (i := i) (xs := us) (a := a) (b := natS vs ++ b) (by rw [h, List.append_assoc]) hi hf.1 lu
  have h2 := readA_back (s := s) (i := i + (natS us).length) (xs := vs) (a := a ++ natS us) (b := b) (by rw [h]; simp only [List.append_assoc]) (by simp only [hi, List.length_append]) hf.2.1 lv'
  exact (((readQ_next h1).2 vs _ h2).2 (frB_yes hf))
/-- What is written, one behind the other. -/
def allB (n : Nat) (s : ByteArray) (xs us vs : List Nat) (h l : Nat) : List UInt8 := enc n ++ ((enc s.size ++ L s) ++ (natS xs ++ ((natS us ++ natS vs) ++ (leb l 8 ++ leb h 8))))
theorem fr_long {us vs : List Nat} (h : Fr us vs) : 6 ≤ (natS us ++ natS vs).length := by
  have a := enc_pos us.length
  have b := enc_pos vs.length
  have c : 0 < vs.length := List.length_pos_iff.2 h.2.2.1
  rw [List.length_append, List.length_append, List.length_append, lbs_len, lbs_len]
  omega
set_option maxHeartbeats 4000000 in
set_option maxRecDepth 100000 in
theorem few (n : Nat) (hn : n < 18446744073709551616) (s : ByteArray) (A : Option Addr) (k c : Nat) (xs : List Nat) (B : Option Addr) (m d : Nat) (us : List Nat) (B' : Option Addr) (m' d' : Nat) (vs : List Nat) (h l : Nat) (w : World) (HA : Lim w A k c xs) (HU : Lim w B m d us) (HV : Lim w B' m' d' vs) (hh : h < 18446744073709551616) (hl : l < 18446744073709551616) (b : 200 < s.size ∨ ¬ Nt xs ∨ ¬ Fr us vs) : Calls Try.prog 5 #[.int .u64 (n : Int), .string s, .slice A k c, .agg #[.slice B m d, .slice B' m' d'], .agg #[.int .u64 (h : Int), .int .u64 (l : Int)]] w fun e w' => e = .returned (.bool true) ∧ Below w.heap.size w w' := by
  have KF := Lib.hid awake8_any
  have M0 : Below w.heap.size w ((w.alloc (.cells #[.slice B m d, .slice B' m' d'] 26)).alloc (.cells #[.int .u64 (h : Int), .int .u64 (l : Int)] 28)) := below_al (below_al (Below.refl _ _) _) _
  have R := (Box.new w #[.slice B m d, .slice B' m' d'] 26).alloc (.cells #[.int .u64 (h : Int), .int .u64 (l : Int)] 28)
  have Q := Box.new (w.alloc (.cells #[.slice B m d, .slice B' m' d'] 26)) #[.int .u64 (h : Int), .int .u64 (l : Int)] 28
  rw [World.size_alloc] at Q
  obtain ⟨a, hg⟩ : ∃ g, w.heap.size = g := ⟨_, rfl⟩
  rw [hg] at R Q
  obtain ⟨r0, r1⟩ := R.two
  have HAH := Lib.hid HA; have HUH := Lib.hid HU; have HVH := Lib.hid HV
  have P17 : Hid (∀ W, Below w.heap.size w W → _) := fun W hW => wNat_any (HAH.out.next hW)
  have P18 : Hid (∀ W, Below w.heap.size w W → _) := fun W hW => wRat_any (HUH.out.next hW) (HVH.out.next hW)
  have c1 : (200 : Int) < s.size ∨ (¬ (200 : Int) < s.size ∧ Hid (natT xs = ⟨#[]⟩)) ∨ (¬ (200 : Int) < s.size ∧ Hid (ratT us vs = ⟨#[]⟩) ∧ ¬ (natT xs).toList = []) := by
    by_cases a1 : 200 < s.size
    · exact Or.inl (by omega)
    · by_cases a2 : Nt xs
      · refine Or.inr (Or.inr ⟨by omega, ratT_no ((b.resolve_left a1).resolve_left fun x => x a2), fun e => ?_⟩)
        rw [natT_yes a2, ByteArray.toList_eq] at e
        have := congrArg List.length e
        have p := enc_pos xs.length
        have e2 : (bs (natS xs)).data.toList.length = (natS xs).length := L_len (bs (natS xs))
        rw [e2, List.length_append] at this
        have this : (enc xs.length).length + (lbs xs).length = 0 := this
        omega
      · exact Or.inr (Or.inl ⟨by omega, natT_no a2⟩)
  clear b HA HU HV HAH HUH HVH hn hh hl
  rcases c1 with i1 | ⟨i1, i2⟩ | ⟨i1, i2, i3⟩
  · go_enter Try.func5, Try.ntmps5
    go_wp2_with fail
    clear hg
    refine (KF.out _).mono ?_
    rintro e y ⟨rfl, hy⟩
    go_wp2_with fail
    go_ret
    exact ⟨rfl, below_step M0 hy⟩
  · rw [i2.out] at P17
    go_enter Try.func5, Try.ntmps5
    go_wp2_with fail
    clear hg r0 r1
    generalize (w.alloc (.cells #[.slice B m d, .slice B' m' d'] 26)).alloc (.cells #[.int .u64 (h : Int), .int .u64 (l : Int)] 28) = V at *
    refine (P17.out _ M0).mono ?_
    rintro e y ⟨rfl, hy⟩
    go_wp2_with fail
    refine (KF.out _).mono ?_
    rintro e y2 ⟨rfl, hy2⟩
    go_wp2_with fail
    go_ret
    exact ⟨rfl, below_step M0 (below_step hy hy2)⟩
  · rw [i2.out] at P18
    generalize natT xs = tx at *
    go_enter Try.func5, Try.ntmps5
    go_wp2_with fail
    clear hg r0 r1
    generalize (w.alloc (.cells #[.slice B m d, .slice B' m' d'] 26)).alloc (.cells #[.int .u64 (h : Int), .int .u64 (l : Int)] 28) = V at *
    refine (P17.out _ M0).mono ?_
    rintro e y ⟨rfl, hy⟩
    obtain ⟨r0, r1⟩ := (R.next hy).two
    go_wp2_with fail
    refine (P18.out _ (below_step M0 hy)).mono ?_
    rintro e y1 ⟨rfl, hy1⟩
    go_wp2_with fail
    refine (KF.out _).mono ?_
    rintro e y2 ⟨rfl, hy2⟩
    go_wp2_with fail
    go_ret
    exact ⟨rfl, below_step M0 (below_step hy (below_step hy1 hy2))⟩
set_option maxHeartbeats 8000000 in
set_option maxRecDepth 100000 in
theorem main (n : Nat) (hn : n < 18446744073709551616) (s : ByteArray) (A : Option Addr) (k c : Nat) (xs : List Nat) (B : Option Addr) (m d : Nat) (us : List Nat) (B' : Option Addr) (m' d' : Nat) (vs : List Nat) (h l : Nat) (w : World) (HA : Lim w A k c xs) (HU : Lim w B m d us) (HV : Lim w B' m' d' vs) (hh : h < 18446744073709551616) (hl : l < 18446744073709551616) (z1 : s.size ≤ 200) (nt : Nt xs) (fr : Fr us vs) : Calls Try.prog 5 #[.int .u64 (n : Int), .string s, .slice A k c, .agg #[.slice B m d, .slice B' m' d'], .agg #[.int .u64 (h : Int), .int .u64 (l : Int)]] w fun e w' => e = .returned (.bool true) ∧ Below w.heap.size w w' := by
  have KF := Lib.hid awake8_any
  have M0 : Below w.heap.size w ((w.alloc (.cells #[.slice B m d, .slice B' m' d'] 26)).alloc (.cells #[.int .u64 (h : Int), .int .u64 (l : Int)] 28)) := below_al (below_al (Below.refl _ _) _) _
  have R := (Box.new w #[.slice B m d, .slice B' m' d'] 26).alloc (.cells #[.int .u64 (h : Int), .int .u64 (l : Int)] 28)
  have Q := Box.new (w.alloc (.cells #[.slice B m d, .slice B' m' d'] 26)) #[.int .u64 (h : Int), .int .u64 (l : Int)] 28
  rw [World.size_alloc] at Q
  obtain ⟨a, hg⟩ : ∃ g, w.heap.size = g := ⟨_, rfl⟩
  rw [hg] at R Q
  obtain ⟨r0, r1⟩ := R.two
  have HAH := Lib.hid HA; have HUH := Lib.hid HU; have HVH := Lib.hid HV
  have P17 : Hid (∀ W, Below w.heap.size w W → _) := fun W hW => wNat_any (HAH.out.next hW)
  have P18 : Hid (∀ W, Below w.heap.size w W → _) := fun W hW => wRat_any (HUH.out.next hW) (HVH.out.next hW)
  have i1 : ¬ (200 : Int) < s.size := by omega
  have P14 := Lib.hid (fun W => wNumber_any n hn W)
  have P16 := Lib.hid (fun W => wText_any s (by omega) W)
  have P19 := Lib.hid (fun W => wWide_any h l hh hl W)
  rw [natT_yes nt] at P17
  rw [ratT_yes fr] at P18
  -- the texts
  have s1 : (bs (enc n)).size ≤ 10 := by rw [bs_size]; exact enc_ten hn
  have s2 : (bs (enc s.size ++ L s)).size ≤ 210 := by
    rw [bs_size, List.length_append, L_len]
    have := enc_ten (show s.size < 18446744073709551616 by omega)
    omega
  have s3 : (bs (natS xs)).size ≤ 266 := by rw [bs_size]; exact natS_len nt
  have s4 : (bs (natS us ++ natS vs)).size ≤ 532 := by
    rw [bs_size, List.length_append]
    have := natS_len fr.1; have := natS_len fr.2.1
    omega
  have s5 : (bs (leb l 8 ++ leb h 8)).size = 16 := by rw [bs_size, List.length_append, leb_len, leb_len]
  have n3 : ¬ (bs (natS xs)).toList = [] := by
    intro e
    rw [ByteArray.toList_eq] at e
    have := congrArg List.length e
    have p := enc_pos xs.length
    have e2 : (bs (natS xs)).data.toList.length = (natS xs).length := L_len (bs (natS xs))
    rw [e2, List.length_append] at this
    have this : (enc xs.length).length + (lbs xs).length = 0 := this
    omega
  have n4 : ¬ ((bs (natS us ++ natS vs)).size : Int) < 6 := by rw [bs_size]; have := fr_long fr; omega
  obtain ⟨e1, h1⟩ : ∃ e, e = bs (enc n) := ⟨_, rfl⟩
  obtain ⟨e2, h2⟩ : ∃ e, e = bs (enc s.size ++ L s) := ⟨_, rfl⟩
  obtain ⟨e3, h3⟩ : ∃ e, e = bs (natS xs) := ⟨_, rfl⟩
  obtain ⟨e4, h4⟩ : ∃ e, e = bs (natS us ++ natS vs) := ⟨_, rfl⟩
  obtain ⟨e5, h5⟩ : ∃ e, e = bs (leb l 8 ++ leb h 8) := ⟨_, rfl⟩
  obtain ⟨f2, g2⟩ : ∃ f, f = e1 ++ e2 := ⟨_, rfl⟩
  obtain ⟨f3, g3⟩ : ∃ f, f = f2 ++ e3 := ⟨_, rfl⟩
  obtain ⟨f4, g4⟩ : ∃ f, f = f3 ++ e4 := ⟨_, rfl⟩
  obtain ⟨f5, g5⟩ : ∃ f, f = f4 ++ e5 := ⟨_, rfl⟩
  have L5 : L f5 = allB n s xs us vs h l := by
    rw [g5, g4, g3, g2, h1, h2, h3, h4, h5]
    unfold allB
    simp only [L_app, L_bs, List.append_assoc]
  rw [← h1] at P14 s1
  rw [← h2] at P16 s2
  rw [← h3] at P17 s3 n3
  rw [← h4] at P18 s4 n4
  rw [← h5] at P19 s5
  have n3b : e3.toList.isEmpty = false := by
    cases hq : e3.toList with
    | nil => exact absurd hq n3
    | cons _ _ => rfl
  have n4b : decide ((e4.size : Int) < 6) = false := decide_eq_false n4
  clear n4
  have q2 : f2.size = e1.size + e2.size := by rw [g2, ByteArray.size_append]
  have q3 : f3.size = f2.size + e3.size := by rw [g3, ByteArray.size_append]
  have q4 : f4.size = f3.size + e4.size := by rw [g4, ByteArray.size_append]
  have q5 : f5.size = f4.size + e5.size := by rw [g5, ByteArray.size_append]
  have a2 : ∀ W : World, (Op.stringOp .add e1 e2).run Try.prog W = .ok (.string f2) W := fun W => by rw [g2]; exact run_string_add_sum W e1 e2 (by omega)
  have a3 : ∀ W : World, (Op.stringOp .add f2 e3).run Try.prog W = .ok (.string f3) W := fun W => by rw [g3]; exact run_string_add_sum W f2 e3 (by omega)
  have a4 : ∀ W : World, (Op.stringOp .add f3 e4).run Try.prog W = .ok (.string f4) W := fun W => by rw [g4]; exact run_string_add_sum W f3 e4 (by omega)
  have a5 : ∀ W : World, (Op.stringOp .add f4 e5).run Try.prog W = .ok (.string f5) W := fun W => by rw [g5]; exact run_string_add_sum W f4 e5 (by omega)
  have b2 : ¬ (9223372036854775807 < e1.size + e2.size) := by omega
  have b3 : ¬ (9223372036854775807 < f2.size + e3.size) := by omega
  have b4 : ¬ (9223372036854775807 < f3.size + e4.size) := by omega
  have b5 : ¬ (9223372036854775807 < f4.size + e5.size) := by omega
  have fz : f5.size ≤ 281474976710656 := by omega
  -- what is read
  have F5 : f5.size = (allB n s xs us vs h l).length := by rw [← L5, L_len]
  obtain ⟨j1, hj1⟩ : ∃ j, j = (enc n).length := ⟨_, rfl⟩
  obtain ⟨j2, hj2⟩ : ∃ j, j = j1 + ((enc s.size).length + s.size) := ⟨_, rfl⟩
  obtain ⟨j3, hj3⟩ : ∃ j, j = j2 + (natS xs).length := ⟨_, rfl⟩
  obtain ⟨j4, hj4⟩ : ∃ j, j = j3 + ((natS us).length + (natS vs).length) := ⟨_, rfl⟩
  have hj5 : f5.size = j4 + 16 := by
    rw [F5, hj4, hj3, hj2, hj1]
    unfold allB
    simp only [List.length_append, leb_len, L_len]
    omega
  unfold allB at L5
  have KN : readN f5 0 false n = some (n, j1) := by rw [hj1]; exact readN_back (s := f5) (i := 0) (n := n) (most := n) (a := []) (b := _) L5 rfl hn (Nat.le_refl _)
  have K1 : Hid (∀ (W : World) (g : Nat), Box W g #[.string f5, .int .i64 0, .bool false] → Calls Try.prog 24 #[.pointer (some ⟨g, 0, none⟩), .int .u64 (n : Int)] W fun e w' => e = .returned (.int .u64 (n : Int)) ∧ Tk g #[.string f5, .int .i64 (j1 : Int), .bool false] W w') := fun W g hW => by
    have := rNumber_any hW n fz
    rw [KN] at this
    refine this.mono fun e w' h => ⟨h.1, ?_⟩
    have T : Tk g #[.string f5, .int .i64 (0 + (j1 : Int)), .bool false] W w' := h.2
    rw [Int.zero_add] at T
    exact T
  have KT := readT_back (s := f5) (t := s) (i := j1) (most := (s.size : Int)) (a := enc n) (b := natS xs ++ ((natS us ++ natS vs) ++ (leb l 8 ++ leb h 8))) (by rw [L5]; simp only [List.append_assoc]) hj1 (by omega) (Int.le_refl _)
  have K2 : Hid (∀ (W : World) (g : Nat), Box W g #[.string f5, .int .i64 (j1 : Int), .bool false] → Calls Try.prog 25 #[.pointer (some ⟨g, 0, none⟩), .int .i64 (s.size : Int)] W fun e w' => e = .returned (.string s) ∧ Tk g #[.string f5, .int .i64 (j2 : Int), .bool false] W w') := fun W g hW => by
    have := rText_any hW (s.size : Int) (by omega) fz
    rw [KT.1, KT.2] at this
    rw [hj2]
    exact this
  have KA := readA_back (s := f5) (i := j2) (xs := xs) (a := enc n ++ (enc s.size ++ L s)) (b := (natS us ++ natS vs) ++ (leb l 8 ++ leb h 8)) (by rw [L5]; simp only [List.append_assoc]) (by rw [hj2, hj1, List.length_append, List.length_append, L_len]) nt HA.lo
  have K3 : Hid (∀ (W : World) (g : Nat), Box W g #[.string f5, .int .i64 (j2 : Int), .bool false] → Calls Try.prog 26 #[.pointer (some ⟨g, 0, none⟩)] W fun e w' => ∃ A n c, e = .returned (.slice A n c) ∧ Lim w' A n c xs ∧ (∀ ad, A = some ad → W.heap.size ≤ ad.block) ∧ Tk g #[.string f5, .int .i64 (j3 : Int), .bool false] W w') := fun W g hW => by
    have := rNat_any hW fz
    unfold RetRA at this
    rw [KA] at this
    rw [hj3]
    exact this
  have KQ := readQ_back (s := f5) (i := j3) (us := us) (vs := vs) (a := enc n ++ ((enc s.size ++ L s) ++ natS xs)) (b := leb l 8 ++ leb h 8) (by rw [L5]; simp only [List.append_assoc]) (by rw [hj3, hj2, hj1]; simp only [List.length_append, L_len]; omega) fr HU.lo HV.lo
  have K4 : Hid (∀ (W : World) (g : Nat), Box W g #[.string f5, .int .i64 (j3 : Int), .bool false] → Calls Try.prog 27 #[.pointer (some ⟨g, 0, none⟩)] W fun e w' => ∃ A n c A' n' c', e = .returned (.agg #[.slice A n c, .slice A' n' c']) ∧ Lim w' A n c us ∧ Lim w' A' n' c' vs ∧ (∀ ad, A = some ad → W.heap.size ≤ ad.block) ∧ (∀ ad, A' = some ad → W.heap.size ≤ ad.block) ∧ Tk g #[.string f5, .int .i64 (j4 : Int), .bool false] W w') := fun W g hW => by
    have := rRat_any hW fz
    unfold RetRQ at this
    rw [KQ] at this
    rw [hj4]
    exact this
  have KW := readW_back (s := f5) (i := j4) (h := h) (l := l) (a := enc n ++ ((enc s.size ++ L s) ++ (natS xs ++ (natS us ++ natS vs)))) (b := []) (by rw [L5]; simp only [List.append_assoc, List.append_nil]) (by rw [hj4, hj3, hj2, hj1]; simp only [List.length_append, L_len]; omega) hh hl
  have K5 : Hid (∀ (W : World) (g : Nat), Box W g #[.string f5, .int .i64 (j4 : Int), .bool false] → Calls Try.prog 28 #[.pointer (some ⟨g, 0, none⟩)] W fun e w' => e = .returned (.agg #[.int .u64 (h : Int), .int .u64 (l : Int)]) ∧ Tk g #[.string f5, .int .i64 (f5.size : Int), .bool false] W w') := fun W g hW => by
    have := rWide_any hW fz
    rw [KW.1, KW.2] at this
    rw [hj5]
    exact this
  have K6 : Hid (∀ (W : World) (g : Nat), Box W g #[.string f5, .int .i64 (f5.size : Int), .bool false] → Calls Try.prog 23 #[.pointer (some ⟨g, 0, none⟩)] W fun e w' => e = .returned (.int .i64 0) ∧ Below W.heap.size W w') := fun W g hW => by
    have := done_any hW fz
    rw [show okD f5 (f5.size : Int) false = 0 by unfold okD; rw [if_pos ⟨rfl, rfl⟩]] at this
    exact this
  have KS : Hid (∀ (W : World) A n c A' n' c', Lim W A n c xs → Lim W A' n' c' xs → Calls Try.prog 29 #[.slice A n c, .slice A' n' c'] W fun e w' => e = .returned (.bool true) ∧ Below W.heap.size W w') := fun W A n c A' n' c' h h' => by
    have := same_bel h h'
    rw [sameB_yes xs] at this
    exact this
  have KS3 : Hid (∀ (W : World) A n c A' n' c' D i j D' i' j', Lim W A n c us → Lim W A' n' c' vs → Lim W D i j us → Lim W D' i' j' vs → Calls Try.prog 30 #[.agg #[.slice A n c, .slice A' n' c'], .agg #[.slice D i j, .slice D' i' j']] W fun e w' => e = .returned (.bool true) ∧ Below W.heap.size W w') := fun W A n c A' n' c' D i j D' i' j' h1 h2 h3 h4 => by
    have := same3_any h1 h2 h3 h4
    rw [sameB_yes us, sameB_yes vs] at this
    exact this
  clear L5 F5 hj1 hj2 hj3 hj4 hj5 KN KT KA KQ KW h1 h2 h3 h4 h5 g2 g3 g4 g5 q2 q3 q4 q5 s1 s2 s3 s4 s5 fz HA HU HV hn hh hl nt fr z1
  go_enter Try.func5, Try.ntmps5
  go_wp2_with fail
  clear hg r0 r1
  generalize (w.alloc (.cells #[.slice B m d, .slice B' m' d'] 26)).alloc (.cells #[.int .u64 (h : Int), .int .u64 (l : Int)] 28) = V at *
  refine (P17.out _ M0).mono ?_
  rintro e V1 ⟨rfl, B1⟩
  replace M0 := below_step M0 B1
  replace R := R.next B1
  replace Q := Q.next B1
  clear B1
  obtain ⟨r0, r1⟩ := R.two
  go_wp2_with fail
  clear r0 r1
  refine (P18.out _ M0).mono ?_
  rintro e V2 ⟨rfl, B1⟩
  replace M0 := below_step M0 B1
  replace R := R.next B1
  replace Q := Q.next B1
  clear B1
  obtain ⟨r0, r1⟩ := R.two
  obtain ⟨q0, q1⟩ := Q.two
  have MH := Lib.hid M0
  go_upto_region 3 with fail
  clear n3 n3b n4b
  go_cut [11] (fun sc wx => ∃ g, sc = .pointer (some ⟨g, 0, none⟩) ∧ V2.heap.size ≤ g ∧ Box wx g #[.string f5, .int .i64 0, .bool false] ∧ Below V2.heap.size V2 wx)
  case first =>
    go_region_held3 (fun w' => w'.cell? ⟨a, 0, none⟩ = some (.slice B m d) ∧ w'.cell? ⟨a, 1, none⟩ = some (.slice B' m' d') ∧ w'.cell? ⟨a + 1, 0, none⟩ = some (.int .u64 (h : Int)) ∧ w'.cell? ⟨a + 1, 1, none⟩ = some (.int .u64 (l : Int)))
      ((refine ⟨?_, ?_, ?_, ?_⟩ <;> (repeat (first | with_reducible exact r0 | with_reducible exact r1 | with_reducible exact q0 | with_reducible exact q1 | with_reducible refine keep_drew ?_ | with_reducible refine keep_alloc ?_ _ | with_reducible refine keep_cell (by assumption) ?_))))
      (first
        | (go_at_call 14; (with_reducible refine (P14.out _).mono ?_); rintro e z ⟨rfl, BZ⟩)
        | (go_at_call 16; (with_reducible refine (P16.out _).mono ?_); rintro e z ⟨rfl, BZ⟩)
        | (go_at_call 17; (with_reducible refine (P17.out _ ?_).mono ?_); (· refine below_step MH.out ?_; repeat (first | with_reducible exact (Below.refl _ _).drew | refine below_step ?_ (by assumption))); rintro e z ⟨rfl, BZ⟩)
        | (go_at_call 18; (with_reducible refine (P18.out _ ?_).mono ?_); (· refine below_step MH.out ?_; repeat (first | with_reducible exact (Below.refl _ _).drew | refine below_step ?_ (by assumption))); rintro e z ⟨rfl, BZ⟩)
        | (go_at_call 19; (with_reducible refine (P19.out _).mono ?_); rintro e z ⟨rfl, BZ⟩))
    all_goals go_wp2_with fail
    all_goals go_meet
    all_goals go_light
    all_goals refine ⟨_, rfl, Below.size (B := V2.heap.size) ?_, Box.new _ _ _, below_al ?_ _⟩
    all_goals (repeat (first | with_reducible exact (Below.refl _ _).drew | refine below_step ?_ (by assumption)))
  case rest =>
  obtain ⟨g, rfl, gV, G, BR⟩ := hcut
  have ag : Hid (a ≠ g) := by have := R.lt; unfold Hid; omega
  have ag1 : Hid (a + 1 ≠ g) := by have := Q.lt; unfold Hid; omega
  replace R := R.next BR
  replace Q := Q.next BR
  have M : One w g #[.string f5, .int .i64 0, .bool false] _ := ⟨G, Nat.le_trans MH.out.size gV, below_step MH.out BR⟩
  clear BR M0 r0 r1 q0 q1 G gV P14 P16 P17 P18 P19 MH a2 a3 a4 a5 b2 b3 b4 b5
  go_wp2_with fail
  refine (K1.out _ _ M.bg).mono ?_
  rintro e X1 ⟨rfl, T⟩
  replace M := M.tk T
  replace R := R.tk T ag.out
  replace Q := Q.tk T ag1.out
  clear T
  go_wp2_with fail
  refine (K2.out _ _ M.bg).mono ?_
  rintro e X2 ⟨rfl, T⟩
  replace M := M.tk T
  replace R := R.tk T ag.out
  replace Q := Q.tk T ag1.out
  clear T
  go_wp2_with fail
  have gl := M.bg.lt
  refine (K3.out _ _ M.bg).mono ?_
  rintro e X3 ⟨A1, n1, c1, rfl, L1, F1, T⟩
  have N1 : Hid (∀ ad, A1 = some ad → ad.block ≠ g) := fun ad ha => by have := F1 ad ha; omega
  replace M := M.tk T
  replace R := R.tk T ag.out
  replace Q := Q.tk T ag1.out
  clear T F1 gl
  go_wp2_with fail
  have gl := M.bg.lt
  refine (K4.out _ _ M.bg).mono ?_
  rintro e X4 ⟨A2, n2, c2, A3, n3, c3, rfl, L2, L3, F2, F3, T⟩
  have N2 : Hid (∀ ad, A2 = some ad → ad.block ≠ g) := fun ad ha => by have := F2 ad ha; omega
  have N3 : Hid (∀ ad, A3 = some ad → ad.block ≠ g) := fun ad ha => by have := F3 ad ha; omega
  replace M := M.tk T
  replace R := R.tk T ag.out
  replace Q := Q.tk T ag1.out
  replace L1 := L1.tk T N1.out
  clear T F2 F3 gl
  obtain ⟨v, hv⟩ : ∃ v, X4.heap.size = v := ⟨_, rfl⟩
  have BV := below_one X4 (.cells #[.slice A2 n2 c2, .slice A3 n3 c3] 26)
  have Y := Box.new X4 #[.slice A2 n2 c2, .slice A3 n3 c3] 26
  rw [hv] at Y
  have vg : Hid (v ≠ g) := by have := M.bg.lt; unfold Hid; omega
  replace M := M.next BV
  replace R := R.next BV
  replace Q := Q.next BV
  replace L1 := L1.next BV
  replace L2 := L2.next BV
  replace L3 := L3.next BV
  go_wp2_with fail
  clear hv BV
  generalize X4.alloc (.cells #[.slice A2 n2 c2, .slice A3 n3 c3] 26) = X5 at *
  refine (K5.out _ _ M.bg).mono ?_
  rintro e X6 ⟨rfl, T⟩
  replace M := M.tk T
  replace R := R.tk T ag.out
  replace Q := Q.tk T ag1.out
  replace Y := Y.tk T vg.out
  replace L1 := L1.tk T N1.out
  replace L2 := L2.tk T N2.out
  replace L3 := L3.tk T N3.out
  clear T
  have BV := below_one X6 (.cells #[.int .u64 (h : Int), .int .u64 (l : Int)] 28)
  have Z := Box.new X6 #[.int .u64 (h : Int), .int .u64 (l : Int)] 28
  obtain ⟨z, hz⟩ : ∃ v, X6.heap.size = v := ⟨_, rfl⟩
  rw [hz] at Z
  replace M := M.next BV
  replace R := R.next BV
  replace Q := Q.next BV
  replace Y := Y.next BV
  replace L1 := L1.next BV
  replace L2 := L2.next BV
  replace L3 := L3.next BV
  have HA9 := HAH.out.next M.bl
  have ss : s.toList = s.toList := rfl
  go_wp2_with fail
  clear hz BV
  generalize X6.alloc (.cells #[.int .u64 (h : Int), .int .u64 (l : Int)] 28) = X7 at *
  refine (KS.out _ _ _ _ _ _ _ HA9 L1).mono ?_
  rintro e X8 ⟨rfl, BB⟩
  replace M := M.next BB
  replace R := R.next BB
  replace Q := Q.next BB
  replace Y := Y.next BB
  replace Z := Z.next BB
  replace L2 := L2.next BB
  replace L3 := L3.next BB
  clear BB HA9 L1
  have HU9 := HUH.out.next M.bl
  have HV9 := HVH.out.next M.bl
  obtain ⟨r0, r1⟩ := R.two
  obtain ⟨y0, y1⟩ := Y.two
  go_wp2_with fail
  refine (KS3.out _ _ _ _ _ _ _ _ _ _ _ _ _ L2 L3 HU9 HV9).mono ?_
  rintro e X9 ⟨rfl, BB⟩
  replace M := M.next BB
  replace Q := Q.next BB
  replace Z := Z.next BB
  clear BB HU9 HV9 L2 L3 r0 r1 y0 y1 R Y
  obtain ⟨q0, q1⟩ := Q.two
  obtain ⟨z0, z1⟩ := Z.two
  go_wp2_with fail
  refine (K6.out _ _ M.bg).mono ?_
  rintro e X10 ⟨rfl, BB⟩
  have MB := Lib.hid (below_step M.bl BB)
  clear BB q0 q1 z0 z1 Q Z M
  go_wp2_with fail
  refine (KF.out _).mono ?_
  rintro e X11 ⟨rfl, BB⟩
  go_wp2_with fail
  go_ret
  exact ⟨rfl, below_step MB.out BB⟩
theorem walk (n : Nat) (hn : n < 18446744073709551616) (s : ByteArray) (A : Option Addr) (k c : Nat) (xs : List Nat) (B : Option Addr) (m d : Nat) (us : List Nat) (B' : Option Addr) (m' d' : Nat) (vs : List Nat) (h l : Nat) (w : World) (HA : Lim w A k c xs) (HU : Lim w B m d us) (HV : Lim w B' m' d' vs) (hh : h < 18446744073709551616) (hl : l < 18446744073709551616) : Calls Try.prog 5 #[.int .u64 (n : Int), .string s, .slice A k c, .agg #[.slice B m d, .slice B' m' d'], .agg #[.int .u64 (h : Int), .int .u64 (l : Int)]] w fun e w' => e = .returned (.bool true) ∧ Below w.heap.size w w' := by
  by_cases b : 200 < s.size ∨ ¬ Nt xs ∨ ¬ Fr us vs
  · exact few n hn s A k c xs B m d us B' m' d' vs h l w HA HU HV hh hl b
  · have z1 : s.size ≤ 200 := by omega
    exact main n hn s A k c xs B m d us B' m' d' vs h l w HA HU HV hh hl z1 (Classical.byContradiction fun x => b (Or.inr (Or.inl x))) (Classical.byContradiction fun x => b (Or.inr (Or.inr x)))

set_option maxRecDepth 100000 in
theorem lifted (os : Os) (started : os.Started) (H : Type) (enc : TypeId × Value → H) :
    ReturnsInHanded {} Try.checked os 5 .any (Rows.wireBackSpec.pre6 enc Try.prog Try.f5 Rows.wireBackRow.domain false) (Rows.wireBackSpec.post enc Try.prog Try.f5 false true false false) := by
  refine returnsInHanded_of_change (C := Try.checked) own started (by kernel_rfl) Try.func5
    (ChangeSpec.witness6 (enc := enc) (C := Try.checked) false ⟨#[], #[.int .u64 0, .string ⟨#[]⟩, .slice none 0 0, .agg #[.slice none 0 0, .slice none 0 0], .agg #[.int .u64 0, .int .u64 0]], []⟩ 8 (by kernel_rfl) (by kernel_rfl) (by kernel_rfl) (by kernel_rfl)) ?_
  intro W base args ds gs before hval0 hW hcnd _
  have hval : ∀ (j : Nat) t v, Try.f5.params[j]? = some t → args[j]? = some v → Value.okWide Try.prog W .any base t v := hval0
  have hW' := hW
  obtain ⟨p, q, hA0, hV, rfl, _, _⟩ := hW
  have hA : DataW.TrodAll enc Try.prog W 0 (fun _ => true) true Try.f5.params.toList args.toList ds p := hA0
  rw [Try.params5] at hA hval
  obtain ⟨v0, v1, v2, v3, v4, d0, d1, d2, d3, d4, p0, p1, p2, p3, p4, rfl, rfl, rfl, h0t, h1t, h2t, h3t, h4t⟩ := trodAll_five hA
  obtain ⟨rfl, rfl⟩ := trodVars_none hV
  obtain ⟨n0, rfl, hn0⟩ := open_u64 (hval 0 22 v0 rfl rfl) h0t
  obtain ⟨s1, rfl, -, -, hs1⟩ := Go.ChangeMaps.open_string Try.underlying9 (hval 1 9 v1 rfl rfl) h1t
  obtain ⟨A2, n2, c2, xs2, rfl, hs2⟩ := open_nat (hval 2 24 v2 rfl rfl) h2t
  obtain ⟨A3, n3, c3, xs3, D3, m3, k3, ys3, rfl, hs3, ht3⟩ := open_rat (hval 3 26 v3 rfl rfl) h3t
  obtain ⟨x4, y4, rfl, hx4, hy4⟩ := open_wide (hval 4 28 v4 rfl rfl) h4t
  clear hA0 hval0
  simp only [List.append_nil] at hW'
  have hlt : ∀ x ∈ p0 ++ p1 ++ p2 ++ p3 ++ p4, x.block < W.heap.size := fun x hx => by simpa using hW'.lt x (by simpa using hx)
  refine (walk n0 hn0 s1 A2 n2 c2 xs2 A3 n3 c3 xs3 D3 m3 k3 ys3 x4 y4 W hs2 hs3 ht3 hx4 hy4).mono fun e W' ⟨he, hbl⟩ => ?_
  subst he
  refine ⟨_, rfl, post_args hW' (fun _ _ _ => trodAll_mk1 (shut_bool Try.underlying4 _)) ?_ (fun _ => rfl) hbl⟩
  have t0 := Below.trod laidOut readable_u64 typed_u64 h0t hbl (fun x hx => hlt x (List.mem_append_left _ (List.mem_append_left _ (List.mem_append_left _ (List.mem_append_left _ hx)))))
  have t1 := Below.trod laidOut readable_str typed_str h1t hbl (fun x hx => hlt x (List.mem_append_left _ (List.mem_append_left _ (List.mem_append_left _ (List.mem_append_right _ hx)))))
  have t2 := Below.trod laidOut readable_nat typed_nat h2t hbl (fun x hx => hlt x (List.mem_append_left _ (List.mem_append_left _ (List.mem_append_right _ hx))))
  have t3 := Below.trod laidOut readable_rat typed_rat h3t hbl (fun x hx => hlt x (List.mem_append_left _ (List.mem_append_right _ hx)))
  have t4 := Below.trod laidOut readable_wide typed_wide h4t hbl (fun x hx => hlt x (List.mem_append_right _ hx))
  exact (show p0 ++ (p1 ++ (p2 ++ (p3 ++ p4))) = p0 ++ p1 ++ p2 ++ p3 ++ p4 by simp only [List.append_assoc]) ▸ trodAll_mk5 t0 t1 t2 t3 t4

theorem proved : Rows.WireBackSaid :=
  OpenClaim.holds_of_wide 5 Try.f5 rfl rfl rfl rfl rfl rfl rfl ⟨rfl, rfl, rfl, rfl, rfl⟩ rfl rfl rfl rfl rfl (by kernel_rfl) Try.func5 (by kernel_rfl)
    (of_decide_eq_true (by kernel_rfl)) (by unfold Func.isWrapper; first | (rw [if_pos (by decide +kernel)]; kernel_rfl) | (rw [if_neg (by decide +kernel)]; exact ⟨rfl, rfl⟩))
    (fun os started H enc _ => lifted os started H enc)
#print axioms proved
end Go.Proofs.Ytacobmnghdibaaa.wireBack
