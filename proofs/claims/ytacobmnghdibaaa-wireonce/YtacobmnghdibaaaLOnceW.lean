/- For any bytes the law WireOnce answers true: what is read of them would be written as just these. No condition. -/
import Derived.Test.YtacobmnghdibaaaJ15
namespace Go.Proofs.Ytacobmnghdibaaa.wireOnce
open Go.ChangeShapes Go.WideShapes Go.ChangeAt Go.RowKit
open Go.Proofs.Ytacobmnghdibaaa
set_option linter.unusedVariables false
set_option linter.unusedSimpArgs false

/-- What is asked of a reader at the first byte is lost, or would be written as just these bytes. -/
def OnceR (F : FuncId) (v : Value) (s : ByteArray) (g : Nat) (w w' : World) : Prop :=
  Tk g #[.string s, .int .i64 0, .bool true] w w' ∨ ∃ k : Nat, k ≤ s.size ∧ Tk g #[.string s, .int .i64 (k : Int), .bool false] w w' ∧ Hid (∀ Z, Below w'.heap.size w' Z → Calls Try.prog F #[v] Z fun e z => e = .returned (.string (s.extract 0 k)) ∧ Below Z.heap.size Z z)
theorem OnceR.next {F : FuncId} {v : Value} {s : ByteArray} {g : Nat} {w w' w2 : World} (h : OnceR F v s g w w') (hb : Below w'.heap.size w' w2) : OnceR F v s g w w2 := by
  rcases h with T | ⟨k, hk, T, K⟩
  · exact Or.inl (T.next hb)
  · exact Or.inr ⟨k, hk, T.next hb, fun Z hZ => K.out Z (below_step hb hZ)⟩
theorem once_num {s : ByteArray} {g : Nat} {W : World} (h : Box W g #[.string s, .int .i64 0, .bool false]) (hs : s.size ≤ 300) : Calls Try.prog 24 #[.pointer (some ⟨g, 0, none⟩), .int .u64 18446744073709551615] W fun e w' => ∃ v, e = .returned v ∧ OnceR 14 v s g W w' := by
  refine (rNumber_any h 18446744073709551615 (by omega)).mono fun e w' h => ?_
  obtain ⟨rfl, T⟩ := h
  refine ⟨_, rfl, ?_⟩
  cases ho : readN s 0 false 18446744073709551615 with
  | none => rw [ho] at T; exact Or.inl T
  | some x =>
    obtain ⟨n, k⟩ := x
    rw [ho] at T
    obtain ⟨e1, e2⟩ := readN_once ho
    have T' : Tk g #[.string s, .int .i64 (0 + (k : Int)), .bool false] W w' := T
    rw [Int.zero_add] at T'
    refine Or.inr ⟨k, readN_le ho, T', fun Z _ => ?_⟩
    rw [← e1]
    exact wNumber_any n e2 Z
theorem once_txt {s : ByteArray} {g : Nat} {W : World} (h : Box W g #[.string s, .int .i64 0, .bool false]) (hs : s.size ≤ 300) : Calls Try.prog 25 #[.pointer (some ⟨g, 0, none⟩), .int .i64 300] W fun e w' => ∃ v, e = .returned v ∧ OnceR 16 v s g W w' := by
  refine (rText_any h 300 (by decide) (by omega)).mono fun e w' h => ?_
  obtain ⟨rfl, T⟩ := h
  refine ⟨_, rfl, ?_⟩
  cases ho : readT s 0 false 300 with
  | none => rw [ho] at T; exact Or.inl T
  | some x =>
    obtain ⟨n, k⟩ := x
    rw [ho] at T
    obtain ⟨e1, e2, e3⟩ := readT_once ho
    have T' : Tk g #[.string s, .int .i64 (0 + ((k + n : Nat) : Int)), .bool false] W w' := T
    rw [Int.zero_add] at T'
    have le := readT_le ho
    refine Or.inr ⟨k + n, le, T', fun Z _ => ?_⟩
    have := wText_any (textB (restB s 0 false) (some (n, k))) (by omega) Z
    rw [e2] at this
    rw [show k + n = n + k by omega, ← e1]
    rw [show bs (enc n) ++ textB (restB s 0 false) (some (n, k)) = bs (enc n ++ L (textB (restB s 0 false) (some (n, k)))) from L_inj (by rw [L_app, L_bs, L_bs])]
    exact this
theorem once_nat {s : ByteArray} {g : Nat} {W : World} (h : Box W g #[.string s, .int .i64 0, .bool false]) (hs : s.size ≤ 300) : Calls Try.prog 26 #[.pointer (some ⟨g, 0, none⟩)] W fun e w' => ∃ v, e = .returned v ∧ OnceR 17 v s g W w' := by
  refine (rNat_any h (by omega)).mono fun e w' h => ?_
  obtain ⟨A, n, c, rfl, LA, _, T⟩ := h
  refine ⟨_, rfl, ?_⟩
  cases ho : readA s 0 false with
  | none => rw [ho] at T; exact Or.inl T
  | some x =>
    obtain ⟨xs, k⟩ := x
    rw [ho] at T LA
    obtain ⟨e1, e2, e3, e4, e5⟩ := readA_there (i := 0) ho
    have T' : Tk g #[.string s, .int .i64 (0 + (k : Int)), .bool false] W w' := T
    rw [Int.zero_add] at T'
    refine Or.inr ⟨k, by omega, T', fun Z hZ => ?_⟩
    have := wNat_any (LA.next hZ)
    rw [show ((some (xs, k)).map Prod.fst).getD [] = xs from rfl, natT_yes e3, e1] at this
    rw [show s.extract 0 k = bs (((L s).drop 0).take k) from L_inj (by rw [L_take, L_bs, List.drop_zero])]
    exact this
theorem once_rat {s : ByteArray} {g : Nat} {W : World} (h : Box W g #[.string s, .int .i64 0, .bool false]) (hs : s.size ≤ 300) : Calls Try.prog 27 #[.pointer (some ⟨g, 0, none⟩)] W fun e w' => ∃ A n c A' n' c', e = .returned (.agg #[.slice A n c, .slice A' n' c']) ∧ OnceR 18 (.agg #[.slice A n c, .slice A' n' c']) s g W w' := by
  refine (rRat_any h (by omega)).mono fun e w' h => ?_
  obtain ⟨A, n, c, A', n', c', rfl, LA, LB, _, _, T⟩ := h
  refine ⟨A, n, c, A', n', c', rfl, ?_⟩
  cases ho : readQ s 0 false with
  | none => rw [ho] at T; exact Or.inl T
  | some x =>
    obtain ⟨xs, ys, k⟩ := x
    rw [ho] at T LA LB
    obtain ⟨e1, e2, e3⟩ := readQ_there (i := 0) ho
    have T' : Tk g #[.string s, .int .i64 (0 + (k : Int)), .bool false] W w' := T
    rw [Int.zero_add] at T'
    refine Or.inr ⟨k, by omega, T', fun Z hZ => ?_⟩
    have := wRat_any (LA.next hZ) (LB.next hZ)
    rw [show ((some (xs, ys, k)).map fun y => y.1).getD [] = xs from rfl, show ((some (xs, ys, k)).map fun y => y.2.1).getD [] = ys from rfl, ratT_yes e2, e1] at this
    rw [show s.extract 0 k = bs (((L s).drop 0).take k) from L_inj (by rw [L_take, L_bs, List.drop_zero])]
    exact this
theorem once_wide {s : ByteArray} {g : Nat} {W : World} (h : Box W g #[.string s, .int .i64 0, .bool false]) (hs : s.size ≤ 300) : Calls Try.prog 28 #[.pointer (some ⟨g, 0, none⟩)] W fun e w' => ∃ x y : Nat, e = .returned (.agg #[.int .u64 (x : Int), .int .u64 (y : Int)]) ∧ OnceR 19 (.agg #[.int .u64 (x : Int), .int .u64 (y : Int)]) s g W w' := by
  refine (rWide_any h (by omega)).mono fun e w' h => ?_
  obtain ⟨rfl, T⟩ := h
  refine ⟨_, _, rfl, ?_⟩
  cases ho : readW s 0 false with
  | none => rw [ho] at T; exact Or.inl T
  | some k =>
    rw [ho] at T
    obtain ⟨rfl, e1, e2, e3⟩ := readW_once ho
    have T' : Tk g #[.string s, .int .i64 (0 + ((16 : Nat) : Int)), .bool false] W w' := T
    rw [Int.zero_add] at T'
    refine Or.inr ⟨16, readW_le ho, T', fun Z _ => ?_⟩
    rw [← e1]
    exact wWide_any _ _ e2 e3 Z
set_option maxHeartbeats 4000000 in
set_option maxRecDepth 100000 in
theorem walk (s : ByteArray) (w : World) : Calls Try.prog 6 #[.string s] w fun e w' => e = .returned (.bool true) ∧ Below w.heap.size w w' := by
  have KF := Lib.hid awake8_any
  by_cases b1 : 300 < s.size
  · have i1 : (300 : Int) < s.size := by omega
    clear b1
    go_enter Try.func6, Try.ntmps6
    go_wp2_with fail
    refine (KF.out _).mono ?_
    rintro e y ⟨rfl, hy⟩
    go_wp2_with fail
    go_ret
    exact ⟨rfl, hy⟩
  have i1 : ¬ (300 : Int) < s.size := by omega
  have hs : s.size ≤ 300 := by omega
  have K1 : Hid (∀ (W : World) (g : Nat), Box W g #[.string s, .int .i64 0, .bool false] → _) := fun W g h => once_num (W := W) (g := g) h hs
  have K2 : Hid (∀ (W : World) (g : Nat), Box W g #[.string s, .int .i64 0, .bool false] → _) := fun W g h => once_txt (W := W) (g := g) h hs
  have K3 : Hid (∀ (W : World) (g : Nat), Box W g #[.string s, .int .i64 0, .bool false] → _) := fun W g h => once_nat (W := W) (g := g) h hs
  have K4 : Hid (∀ (W : World) (g : Nat), Box W g #[.string s, .int .i64 0, .bool false] → _) := fun W g h => once_rat (W := W) (g := g) h hs
  have K5 : Hid (∀ (W : World) (g : Nat), Box W g #[.string s, .int .i64 0, .bool false] → _) := fun W g h => once_wide (W := W) (g := g) h hs
  clear b1 hs
  go_enter Try.func6, Try.ntmps6
  obtain ⟨g, hg⟩ : ∃ g, w.heap.size = g := ⟨_, rfl⟩
  have M := One.new w #[.string s, .int .i64 0, .bool false] 41
  rw [hg] at M
  go_wp2_with fail
  clear hg
  generalize w.alloc (.cells #[.string s, .int .i64 0, .bool false] 41) = V at *
  refine (K1.out _ _ M.bg).mono ?_
  rintro e V2 ⟨v, rfl, HC⟩
  go_upto_region 5 with fail
  generalize V2 = V3 at *
  go_cut [33] (fun sc wx => sc = .bool false ∧ Below w.heap.size w wx)
  case first =>
    rcases HC with T | ⟨k, hk, T, KW⟩
    · replace M := M.tk T
      have BZ := Lib.hid (M.bl)
      obtain ⟨c0, c1, c2⟩ := M.bg.three
      clear M T
      go_quiet (fail)
      go_wp2_with fail
      go_meet
      go_light
      exact ⟨rfl, below_drewN BZ.out _⟩
    · replace M := M.tk T
      have BZ := Lib.hid (M.bl)
      obtain ⟨c0, c1, c2⟩ := M.bg.three
      have k0 : (0 : Int) ≤ (k : Int) := by omega
      have k1 : (k : Int) ≤ s.size := by omega
      have hsl : ∀ W : World, (Instr.slice 9 (.string s) none (some (.int .i64 (k : Int))) none).run Try.prog W = .ok (.string (s.extract 0 k)) W := fun W => run_slice_string_h W 9 s Try.underlying9 .i64 (k : Int) k0 k1
      generalize s.extract 0 k = tt at *
      clear M T
      go_region_held3 (fun w' => w'.cell? ⟨g, 1, none⟩ = some (.int .i64 (k : Int)) ∧ w'.cell? ⟨g, 2, none⟩ = some (.bool false))
        ((refine ⟨?_, ?_⟩ <;> (repeat (first | with_reducible exact c1 | with_reducible exact c2 | with_reducible refine keep_drew ?_ | with_reducible refine keep_cell (by assumption) ?_))))
        (first | (go_at_call 14; (with_reducible refine (KW.out _ ?_).mono ?_); (· exact (Below.refl _ _).drew); rintro e z ⟨rfl, BY⟩))
      all_goals go_wp2_with fail
      all_goals go_meet
      all_goals go_light
      all_goals exact ⟨rfl, below_step BZ.out (below_step (Below.refl _ _).drew BY)⟩
  case rest =>
    obtain ⟨rfl, BR⟩ := hcut
    have BL := Lib.hid BR
    clear BR HC M
    obtain ⟨g, hg⟩ : ∃ g, wc.heap.size = g := ⟨_, rfl⟩
    have M := One.new wc #[.string s, .int .i64 0, .bool false] 41
    rw [hg] at M
    go_wp2_with fail
    clear hg
    generalize wc.alloc (.cells #[.string s, .int .i64 0, .bool false] 41) = V at *
    refine (K2.out _ _ M.bg).mono ?_
    rintro e V2 ⟨v, rfl, HC⟩
    go_upto_region 9 with fail
    generalize V2 = V3 at *
    go_cut [54] (fun sc wx => sc = .bool false ∧ Below w.heap.size w wx)
    case first =>
      rcases HC with T | ⟨k, hk, T, KW⟩
      · replace M := M.tk T
        have BZ := Lib.hid (below_step BL.out M.bl)
        obtain ⟨c0, c1, c2⟩ := M.bg.three
        clear M T
        go_quiet (fail)
        go_wp2_with fail
        go_meet
        go_light
        exact ⟨rfl, below_drewN BZ.out _⟩
      · replace M := M.tk T
        have BZ := Lib.hid (below_step BL.out M.bl)
        obtain ⟨c0, c1, c2⟩ := M.bg.three
        have k0 : (0 : Int) ≤ (k : Int) := by omega
        have k1 : (k : Int) ≤ s.size := by omega
        have hsl : ∀ W : World, (Instr.slice 9 (.string s) none (some (.int .i64 (k : Int))) none).run Try.prog W = .ok (.string (s.extract 0 k)) W := fun W => run_slice_string_h W 9 s Try.underlying9 .i64 (k : Int) k0 k1
        generalize s.extract 0 k = tt at *
        clear M T
        go_region_held3 (fun w' => w'.cell? ⟨g, 1, none⟩ = some (.int .i64 (k : Int)) ∧ w'.cell? ⟨g, 2, none⟩ = some (.bool false))
          ((refine ⟨?_, ?_⟩ <;> (repeat (first | with_reducible exact c1 | with_reducible exact c2 | with_reducible refine keep_drew ?_ | with_reducible refine keep_cell (by assumption) ?_))))
          (first | (go_at_call 16; (with_reducible refine (KW.out _ ?_).mono ?_); (· exact (Below.refl _ _).drew); rintro e z ⟨rfl, BY⟩))
        all_goals go_wp2_with fail
        all_goals go_meet
        all_goals go_light
        all_goals exact ⟨rfl, below_step BZ.out (below_step (Below.refl _ _).drew BY)⟩
    case rest =>
      obtain ⟨rfl, BR⟩ := hcut
      have BL := Lib.hid BR
      clear BR HC M
      obtain ⟨g, hg⟩ : ∃ g, wc.heap.size = g := ⟨_, rfl⟩
      have M := One.new wc #[.string s, .int .i64 0, .bool false] 41
      rw [hg] at M
      go_wp2_with fail
      clear hg
      generalize wc.alloc (.cells #[.string s, .int .i64 0, .bool false] 41) = V at *
      refine (K3.out _ _ M.bg).mono ?_
      rintro e V2 ⟨v, rfl, HC⟩
      go_upto_region 13 with fail
      generalize V2 = V3 at *
      go_cut [75] (fun sc wx => sc = .bool false ∧ Below w.heap.size w wx)
      case first =>
        rcases HC with T | ⟨k, hk, T, KW⟩
        · replace M := M.tk T
          have BZ := Lib.hid (below_step BL.out M.bl)
          obtain ⟨c0, c1, c2⟩ := M.bg.three
          clear M T
          go_quiet (fail)
          go_wp2_with fail
          go_meet
          go_light
          exact ⟨rfl, below_drewN BZ.out _⟩
        · replace M := M.tk T
          have BZ := Lib.hid (below_step BL.out M.bl)
          obtain ⟨c0, c1, c2⟩ := M.bg.three
          have k0 : (0 : Int) ≤ (k : Int) := by omega
          have k1 : (k : Int) ≤ s.size := by omega
          have hsl : ∀ W : World, (Instr.slice 9 (.string s) none (some (.int .i64 (k : Int))) none).run Try.prog W = .ok (.string (s.extract 0 k)) W := fun W => run_slice_string_h W 9 s Try.underlying9 .i64 (k : Int) k0 k1
          generalize s.extract 0 k = tt at *
          clear M T
          go_region_held3 (fun w' => w'.cell? ⟨g, 1, none⟩ = some (.int .i64 (k : Int)) ∧ w'.cell? ⟨g, 2, none⟩ = some (.bool false))
            ((refine ⟨?_, ?_⟩ <;> (repeat (first | with_reducible exact c1 | with_reducible exact c2 | with_reducible refine keep_drew ?_ | with_reducible refine keep_cell (by assumption) ?_))))
            (first | (go_at_call 17; (with_reducible refine (KW.out _ ?_).mono ?_); (· exact (Below.refl _ _).drew); rintro e z ⟨rfl, BY⟩))
          all_goals go_wp2_with fail
          all_goals go_meet
          all_goals go_light
          all_goals exact ⟨rfl, below_step BZ.out (below_step (Below.refl _ _).drew BY)⟩
      case rest =>
        obtain ⟨rfl, BR⟩ := hcut
        have BL := Lib.hid BR
        clear BR HC M
        obtain ⟨g, hg⟩ : ∃ g, wc.heap.size = g := ⟨_, rfl⟩
        have M := One.new wc #[.string s, .int .i64 0, .bool false] 41
        rw [hg] at M
        go_wp2_with fail
        clear hg
        generalize wc.alloc (.cells #[.string s, .int .i64 0, .bool false] 41) = V at *
        refine (K4.out _ _ M.bg).mono ?_
        rintro e V2 ⟨A, n, c, A', n', c', rfl, HC⟩
        obtain ⟨q, hq⟩ : ∃ q, V2.heap.size = q := ⟨_, rfl⟩
        have Q := Box.new V2 #[.slice A n c, .slice A' n' c'] 26
        rw [hq] at Q
        have BQ := below_one V2 (.cells #[.slice A n c, .slice A' n' c'] 26)
        replace HC := HC.next BQ
        go_upto_region 17 with fail
        clear hq
        generalize V2.alloc (.cells #[.slice A n c, .slice A' n' c'] 26) = V3 at *
        go_cut [96] (fun sc wx => sc = .bool false ∧ Below w.heap.size w wx)
        case first =>
          rcases HC with T | ⟨k, hk, T, KW⟩
          · replace M := M.tk T
            have BZ := Lib.hid (below_step BL.out M.bl)
            obtain ⟨c0, c1, c2⟩ := M.bg.three
            clear M T
            go_quiet (fail)
            go_wp2_with fail
            go_meet
            go_light
            exact ⟨rfl, below_drewN BZ.out _⟩
          · replace M := M.tk T
            have BZ := Lib.hid (below_step BL.out M.bl)
            obtain ⟨c0, c1, c2⟩ := M.bg.three
            obtain ⟨d0, d1⟩ := Q.two
            have k0 : (0 : Int) ≤ (k : Int) := by omega
            have k1 : (k : Int) ≤ s.size := by omega
            have hsl : ∀ W : World, (Instr.slice 9 (.string s) none (some (.int .i64 (k : Int))) none).run Try.prog W = .ok (.string (s.extract 0 k)) W := fun W => run_slice_string_h W 9 s Try.underlying9 .i64 (k : Int) k0 k1
            generalize s.extract 0 k = tt at *
            clear M T Q
            go_region_held3 (fun w' => w'.cell? ⟨g, 1, none⟩ = some (.int .i64 (k : Int)) ∧ w'.cell? ⟨g, 2, none⟩ = some (.bool false) ∧ w'.cell? ⟨q, 0, none⟩ = some (.slice A n c) ∧ w'.cell? ⟨q, 1, none⟩ = some (.slice A' n' c'))
              ((refine ⟨?_, ?_, ?_, ?_⟩ <;> (repeat (first | with_reducible exact c1 | with_reducible exact c2 | with_reducible exact d0 | with_reducible exact d1 | with_reducible refine keep_drew ?_ | with_reducible refine keep_cell (by assumption) ?_))))
              (first | (go_at_call 18; (with_reducible refine (KW.out _ ?_).mono ?_); (· exact (Below.refl _ _).drew); rintro e z ⟨rfl, BY⟩))
            all_goals go_wp2_with fail
            all_goals go_meet
            all_goals go_light
            all_goals exact ⟨rfl, below_step BZ.out (below_step (Below.refl _ _).drew BY)⟩
        case rest =>
          obtain ⟨rfl, BR⟩ := hcut
          have BL := Lib.hid BR
          clear BR HC M Q BQ
          obtain ⟨g, hg⟩ : ∃ g, wc.heap.size = g := ⟨_, rfl⟩
          have M := One.new wc #[.string s, .int .i64 0, .bool false] 41
          rw [hg] at M
          go_wp2_with fail
          clear hg
          generalize wc.alloc (.cells #[.string s, .int .i64 0, .bool false] 41) = V at *
          refine (K5.out _ _ M.bg).mono ?_
          rintro e V2 ⟨x, y, rfl, HC⟩
          obtain ⟨q, hq⟩ : ∃ q, V2.heap.size = q := ⟨_, rfl⟩
          have Q := Box.new V2 #[.int .u64 (x : Int), .int .u64 (y : Int)] 28
          rw [hq] at Q
          have BQ := below_one V2 (.cells #[.int .u64 (x : Int), .int .u64 (y : Int)] 28)
          replace HC := HC.next BQ
          go_upto_region 21 with fail
          clear hq
          generalize V2.alloc (.cells #[.int .u64 (x : Int), .int .u64 (y : Int)] 28) = V3 at *
          go_cut [117] (fun sc wx => sc = .bool false ∧ Below w.heap.size w wx)
          case first =>
            rcases HC with T | ⟨k, hk, T, KW⟩
            · replace M := M.tk T
              have BZ := Lib.hid (below_step BL.out M.bl)
              obtain ⟨c0, c1, c2⟩ := M.bg.three
              clear M T
              go_quiet (fail)
              go_wp2_with fail
              go_meet
              go_light
              exact ⟨rfl, below_drewN BZ.out _⟩
            · replace M := M.tk T
              have BZ := Lib.hid (below_step BL.out M.bl)
              obtain ⟨c0, c1, c2⟩ := M.bg.three
              obtain ⟨d0, d1⟩ := Q.two
              have k0 : (0 : Int) ≤ (k : Int) := by omega
              have k1 : (k : Int) ≤ s.size := by omega
              have hsl : ∀ W : World, (Instr.slice 9 (.string s) none (some (.int .i64 (k : Int))) none).run Try.prog W = .ok (.string (s.extract 0 k)) W := fun W => run_slice_string_h W 9 s Try.underlying9 .i64 (k : Int) k0 k1
              generalize s.extract 0 k = tt at *
              clear M T Q
              go_region_held3 (fun w' => w'.cell? ⟨g, 1, none⟩ = some (.int .i64 (k : Int)) ∧ w'.cell? ⟨g, 2, none⟩ = some (.bool false) ∧ w'.cell? ⟨q, 0, none⟩ = some (.int .u64 (x : Int)) ∧ w'.cell? ⟨q, 1, none⟩ = some (.int .u64 (y : Int)))
                ((refine ⟨?_, ?_, ?_, ?_⟩ <;> (repeat (first | with_reducible exact c1 | with_reducible exact c2 | with_reducible exact d0 | with_reducible exact d1 | with_reducible refine keep_drew ?_ | with_reducible refine keep_cell (by assumption) ?_))))
                (first | (go_at_call 19; (with_reducible refine (KW.out _ ?_).mono ?_); (· exact (Below.refl _ _).drew); rintro e z ⟨rfl, BY⟩))
              all_goals go_wp2_with fail
              all_goals go_meet
              all_goals go_light
              all_goals exact ⟨rfl, below_step BZ.out (below_step (Below.refl _ _).drew BY)⟩
          case rest =>
            obtain ⟨rfl, BR⟩ := hcut
            have BL := Lib.hid BR
            clear BR HC M Q BQ
            go_wp2_with fail
            refine (KF.out _).mono ?_
            rintro e y ⟨rfl, hy⟩
            go_wp2_with fail
            go_ret
            exact ⟨rfl, below_step BL.out hy⟩

set_option maxRecDepth 100000 in
theorem lifted (os : Os) (started : os.Started) (H : Type) (enc : TypeId × Value → H) :
    ReturnsInHanded {} Try.checked os 6 .any (Rows.wireOnceSpec.pre6 enc Try.prog Try.f6 Rows.wireOnceRow.domain false) (Rows.wireOnceSpec.post enc Try.prog Try.f6 false true false false) := by
  refine returnsInHanded_of_change (C := Try.checked) own started (by kernel_rfl) Try.func6
    (ChangeSpec.witness6 (enc := enc) (C := Try.checked) false ⟨#[], #[.string ⟨#[]⟩], []⟩ 8 (by kernel_rfl) (by kernel_rfl) (by kernel_rfl) (by kernel_rfl)) ?_
  intro W base args ds gs before hval0 hW hcnd _
  have hval : ∀ (j : Nat) t v, Try.f6.params[j]? = some t → args[j]? = some v → Value.okWide Try.prog W .any base t v := hval0
  have hW' := hW
  obtain ⟨p, q, hA0, hV, rfl, _, _⟩ := hW
  have hA : DataW.TrodAll enc Try.prog W 0 (fun _ => true) true Try.f6.params.toList args.toList ds p := hA0
  rw [Try.params6] at hA hval
  obtain ⟨v0, d0, rfl, rfl, h0t⟩ := trodAll_one hA
  obtain ⟨rfl, rfl⟩ := trodVars_none hV
  obtain ⟨s0, rfl, -, -, hs0⟩ := Go.ChangeMaps.open_string Try.underlying9 (hval 0 9 v0 rfl rfl) h0t
  clear hA0 hval0
  simp only [List.append_nil] at hW'
  have hlt : ∀ x ∈ p, x.block < W.heap.size := fun x hx => by simpa using hW'.lt x (by simpa using hx)
  refine (walk s0 W).mono fun e W' ⟨he, hbl⟩ => ?_
  subst he
  refine ⟨_, rfl, post_args hW' (fun _ _ _ => trodAll_mk1 (shut_bool Try.underlying4 _)) ?_ (fun _ => rfl) hbl⟩
  have t0 := Below.trod laidOut readable_str typed_str h0t hbl (fun x hx => hlt x hx)
  exact trodAll_mk1 t0

theorem proved : Rows.WireOnceSaid :=
  OpenClaim.holds_of_wide 6 Try.f6 rfl rfl rfl rfl rfl rfl rfl ⟨rfl, rfl, rfl, rfl, rfl⟩ rfl rfl rfl rfl rfl (by kernel_rfl) Try.func6 (by kernel_rfl)
    (of_decide_eq_true (by kernel_rfl)) (by unfold Func.isWrapper; first | (rw [if_pos (by decide +kernel)]; kernel_rfl) | (rw [if_neg (by decide +kernel)]; exact ⟨rfl, rfl⟩))
    (fun os started H enc _ => lifted os started H enc)
#print axioms proved
end Go.Proofs.Ytacobmnghdibaaa.wireOnce
