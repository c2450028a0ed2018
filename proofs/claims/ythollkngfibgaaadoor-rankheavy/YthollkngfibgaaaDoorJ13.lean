/- rank's Sort and Least; what the laws ask of the five calls. rank's Sort and Least. Blocks of a call's own, as many as there are. The fixed answer of rank's statements. -/
import Derived.Test.YthollkngfibgaaaDoorJ12
import Derived.Lib.SliceRun
import Derived.Test.YthollkngfibgaaaDoorJ01
namespace Go.Proofs.YthollkngfibgaaaDoor
open Go.RowKit
set_option linter.unusedVariables false
set_option linter.unusedSimpArgs false
set_option maxHeartbeats 2000000
set_option maxRecDepth 100000
theorem mayNot_any (a : It) (w : World) : Calls Tryd.prog 37 #[itv a] w fun e w' => e = .returned (.bool !mayB a) ∧ Below w.heap.size w w' := by
  have KC := Lib.hid (fun W => rankCheck_any a W)
  have E : Hid ((chk a != 0) = !mayB a) := by
    unfold Hid
    by_cases h : chk a = 0
    · rw [chk_may.1 h]; simp [h]
    · have : mayB a = false := by
        cases q : mayB a with
        | false => rfl
        | true => exact absurd (chk_may.2 q) h
      rw [this]; simpa using h
  obtain ⟨cc, hcc⟩ : ∃ cc, cc = chk a := ⟨_, rfl⟩
  rw [← hcc] at KC E
  clear hcc
  obtain ⟨ak, au, aw⟩ := a
  have D := One.new w #[.string ak, .int .u64 (au : Int), .int .u64 (aw : Int)] 24
  obtain ⟨c0, c1, c2⟩ := D.bg.three
  go_enter Tryd.func37, Tryd.ntmps37
  go_wp2_with fail
  refine (KC.out _).mono ?_
  rintro e z ⟨rfl, BZ⟩
  have BL := Lib.hid (D.next BZ).bl
  clear c0 c1 c2 D BZ
  go_wp2_with fail
  go_ret
  exact ⟨congrArg (fun b => Ending.returned (.bool b)) E.out, BL.out⟩
theorem indexMay_any {A : Option Addr} {n c : Nat} {l : List It} {w : World} (h : Its w A n c l) (hn : n ≤ 100000) : Calls Tryd.prog 59 #[.slice A n c, .func (.func 37) #[] #[]] w fun e w' => ∃ v : Int, e = .returned (.int .i64 v) ∧ decide (0 ≤ v) = !l.all mayB ∧ Below w.heap.size w w' := by
  have eg := enters_of Tryd.func37 (by kernel_rfl) rfl
  have H := Lib.hid h
  have HL := Lib.hid h.len
  have KM := Lib.hid (fun (x : It) W => mayNot_any x W)
  clear h
  have hz : (n : Int) ≤ 100000 := by omega
  go_enter Tryd.func59, Tryd.ntmps59
  go_wp2_with fail
  go_loopg [8] n (fun q s8 wr => ∃ i : Nat, s8 = .int .i64 (i : Int) ∧ i + q = n ∧ Hid ((l.take i).all mayB = true) ∧ Hid (Below w.heap.size w wr))
  case atStart => exact ⟨0, rfl, by omega, rfl, Below.refl _ _⟩
  case round =>
    obtain ⟨i, rfl, hq, AL, BL⟩ := hrel
    have HQ := Lib.hid hq
    by_cases lt : i < n
    · have i1 : (i : Int) < n := by omega
      have i0 : (0 : Int) ≤ i := by omega
      obtain ⟨ad, hj, rfl, a0, a1, a2, ft⟩ := (H.out.next BL.out).read i lt
      have TK : Hid ((l.take (i + 1)).all mayB = mayB l[i]) := by
        unfold Hid
        rw [List.take_succ_eq_append_getElem hj, List.all_append, AL.out]; simp
      have IN : Hid (l[i] ∈ l) := List.getElem_mem hj
      generalize l[i] = x at *
      have K := Lib.hid (KM.out x)
      have LT := Lib.hid lt
      clear ft hq lt hj
      go_wp2_with fail
      refine (K.out _).mono ?_
      rintro e z ⟨rfl, BZ⟩
      have BN := Lib.hid (below_step BL.out BZ)
      clear a0 a1 a2 BZ K KM
      cases hm : mayB x
      · have EA : Hid (l.all mayB = false) := by
          unfold Hid
          cases q : l.all mayB with
          | false => rfl
          | true => rw [List.all_eq_true.1 q x IN.out] at hm; exact absurd hm (by decide)
        go_wp2_with fail
        go_ret
        exact ⟨_, rfl, by rw [EA.out]; exact decide_eq_true i0, BN.out⟩
      · rw [hm] at TK
        go_wp2_with fail
        go_roundg (gk - 1)
        case measure => have := HQ.out; have := LT.out; omega
        case rel =>
          go_light
          exact ⟨i + 1, by go_num, by have := HQ.out; have := LT.out; omega, TK, BN⟩
    · obtain rfl : i = n := by omega
      have i1 : ¬ (i : Int) < i := by omega
      have EA : Hid (l.all mayB = true) := by
        have := AL.out
        rw [List.take_of_length_le (by rw [HL.out]; exact Nat.le_refl _)] at this
        exact this
      clear hq lt
      go_wp2_with fail
      go_ret
      exact ⟨_, rfl, by rw [EA.out]; rfl, BL.out⟩
theorem containsMay_any {A : Option Addr} {n c : Nat} {l : List It} {w : World} (h : Its w A n c l) (hn : n ≤ 100000) : Calls Tryd.prog 36 #[.slice A n c, .func (.func 37) #[] #[]] w fun e w' => e = .returned (.bool !l.all mayB) ∧ Below w.heap.size w w' := by
  have K := Lib.hid (indexMay_any h hn)
  clear h
  go_enter Tryd.func36, Tryd.ntmps36
  go_wp2_with fail
  refine K.out.mono ?_
  rintro e z ⟨v, rfl, hv, BZ⟩
  have HV := Lib.hid hv
  clear hv K
  go_wp2_with fail
  go_ret
  exact ⟨congrArg (fun b => Ending.returned (.bool b)) HV.out, BZ⟩
/-- A row that was made reads as a row that may be turned. -/
theorem Rw.row {b : Nat} {v : Value} {s : List It} {W : World} (h : Rw b v s W) : (v = .slice none 0 0 ∧ s = []) ∨ ∃ g cap, v = .slice (some ⟨g, 0, none⟩) s.length cap ∧ b ≤ g ∧ s.length ≤ cap ∧ cap ≤ 9223372036854775807 ∧ Row3 W ⟨g, 0, none⟩ s := by
  rcases h.own.2 with ⟨a, b⟩ | ⟨g, cap, cur, e, a, r, h1, h2, h3, h4⟩
  · exact .inl ⟨a, List.eq_nil_of_length_eq_zero b⟩
  · unfold maxLen at h2
    refine .inr ⟨g, cap, e, a, h1, by omega, ⟨⟨cur, _, r, fun i u hu => ?_⟩, rfl, h.fit⟩⟩
    have hi := (List.getElem?_eq_some_iff.1 hu).1
    rw [icells_len] at hi
    rw [← h4, List.getElem?_take_of_lt hi] at hu
    simpa using hu
theorem cloneI_any {A : Option Addr} {n c : Nat} {l : List It} {w : World} (h : Its w A n c l) (hn : n ≤ 100000) : Calls Tryd.prog 38 #[.slice A n c] w fun e w' => ∃ v, e = .returned v ∧ Rw w.heap.size v l w' ∧ Below w.heap.size w w' := by
  have q22 : ∀ (w : World) (a : Option Addr) (n c n' c' : Nat), (binOp .eql 39 (.slice a n c) (.slice none n' c')).run Tryd.prog w = .ok (.bool a.isNone) w := fun w a n c n' c' => Lib.run_eql_slice_nil w _ _ a n c n' c' Tryd.underlying39
  cases A with
  | none =>
    have h0 : n = 0 := by
      rcases Nat.eq_zero_or_pos n with k | k
      · exact k
      · obtain ⟨ad, _, e, _⟩ := h.read 0 k; cases e
    have e : l = [] := List.eq_nil_of_length_eq_zero (by rw [h.len]; exact h0)
    subst h0 e
    clear h
    go_enter Tryd.func38, Tryd.ntmps38
    go_wp2
    go_ret
    exact ⟨_, rfl, Rw.nil _ _, Below.refl _ _⟩
  | some ad =>
    have I := Lib.hid (h.alloc (.cells #[] 24))
    have R0 : Hid (Rw w.heap.size (.slice (some ⟨w.heap.size, 0, none⟩) 0 0) [] (w.alloc (.cells #[] 24))) := ⟨World.ownsRow_made w #[] 0 (Nat.le_refl _) (Nat.zero_le _) rfl, fun x hx => absurd hx (by simp)⟩
    have SM := Lib.hid (show ([] : List It).length + l.length ≤ 1000000 by rw [h.len]; simp only [List.length_nil]; omega)
    have HB := Lib.hid (show w.heap.size ≤ (w.alloc (.cells #[] 24)).heap.size by simp)
    clear h
    go_enter Tryd.func38, Tryd.ntmps38
    go_wp2_with (at_builtin; refine wpList_appI rfl _ _ rfl rfl R0.out HB.out rfl I.out (fun e => absurd e (by simp)) SM.out ?_)
    intro v' w1 R1 B1
    have BL := Lib.hid (((Below.refl w.heap.size w).alloc (Nat.le_refl _) (.cells #[] 24)).trans B1)
    replace R1 : Rw w.heap.size v' l w1 := by simpa using R1
    clear q22
    go_wp2
    go_ret
    exact ⟨_, rfl, R1, BL.out⟩
end Go.Proofs.YthollkngfibgaaaDoor
namespace Go.Proofs.YthollkngfibgaaaDoor
open Go.RowKit
set_option linter.unusedVariables false
set_option linter.unusedSimpArgs false
set_option maxHeartbeats 2000000
set_option maxRecDepth 100000
theorem insert_none (w : World) (F : Value) : Calls Tryd.prog 74 #[.slice none 0 0, .int .i64 0, .int .i64 0, F] w fun e w' => e = .returned (.tuple #[]) ∧ w = w' := by
  go_enter Tryd.func74, Tryd.ntmps74
  go_wp2_with fail
  go_loopg [8] 0 (fun q s8 wr => s8 = .int .i64 1 ∧ wr = w)
  case atStart => exact ⟨rfl, rfl⟩
  case round =>
    obtain ⟨rfl, rfl⟩ := hrel
    go_wp2_with fail
    go_end0
    exact ⟨rfl, rfl⟩
theorem stable_none (w : World) (F : Value) : Calls Tryd.prog 60 #[.slice none 0 0, .int .i64 0, F] w fun e w' => e = .returned (.tuple #[]) ∧ w = w' := by
  have KI := Lib.hid (fun W => insert_none W F)
  go_enter Tryd.func60, Tryd.ntmps60
  go_wp2_with fail
  go_loopg [7, 8] 0 (fun q s7 s8 wr => s7 = .int .i64 0 ∧ s8 = .int .i64 20 ∧ wr = w)
  case atStart => exact ⟨rfl, rfl, rfl⟩
  case round =>
    obtain ⟨rfl, rfl, hw⟩ := hrel
    have hw := hw.symm
    subst hw
    go_wp2_with fail
    refine (KI.out _).mono ?_
    rintro e z ⟨rfl, rfl⟩
    go_wp2_with fail
    go_loopg [6] 0 (fun q s6 wr => s6 = .int .i64 20 ∧ wr = w)
    case atStart => exact ⟨rfl, rfl⟩
    case round =>
      obtain ⟨rfl, hw⟩ := hrel
      have hw := hw.symm
      subst hw
      go_wp2_with fail
      go_end0
      exact ⟨rfl, rfl⟩
theorem sortStable_none (w : World) (F : Value) : Calls Tryd.prog 39 #[.slice none 0 0, F] w fun e w' => e = .returned (.tuple #[]) ∧ w = w' := by
  have KI := Lib.hid (fun W => stable_none W F)
  go_enter Tryd.func39, Tryd.ntmps39
  go_wp2_with fail
  refine (KI.out _).mono ?_
  rintro e z ⟨rfl, rfl⟩
  go_wp2_with fail
  go_end0
  exact ⟨rfl, rfl⟩
theorem sortStable_any {ad : Addr} {l : List It} {N c : Nat} {w : World} (KC : CmpOk) (h : Row3 w ad l) (ml : May l) (hl : l.length = N) (hs : N ≤ 100000) :
    Calls Tryd.prog 39 #[.slice (some ad) N c, .func (.func 13) #[] #[]] w fun e w' => e = .returned (.tuple #[]) ∧ ∃ s, IsSort l s ∧ Tr ad s w w' := by
  have K := Lib.hid (stable_any (c := c) KC h ml hl hs)
  clear h KC ml hl
  go_enter Tryd.func39, Tryd.ntmps39
  go_wp2_with fail
  refine K.out.mono ?_
  rintro e z ⟨rfl, T⟩
  have T := Lib.hid T
  go_wp2_with fail
  go_end0
  exact ⟨rfl, T.out⟩
/-- The value is nothing, or a row that the call has made. -/
def Got (b : Nat) (v : Value) (s : List It) (W : World) : Prop := (v = .slice none 0 0 ∧ s = []) ∨ ∃ g cap, v = .slice (some ⟨g, 0, none⟩) s.length cap ∧ b ≤ g ∧ s.length ≤ cap ∧ cap ≤ 9223372036854775807 ∧ Row3 W ⟨g, 0, none⟩ s
theorem rankSort_any {A : Option Addr} {n c : Nat} {l : List It} {w : World} (h : Its w A n c l) (hn : n ≤ 100000) (hm : l.all mayB = true) : Calls Tryd.prog 18 #[.slice A n c] w fun e w' => ∃ v s, e = .returned v ∧ IsSort l s ∧ Got w.heap.size v s w' ∧ Below w.heap.size w w' := by
  have K1 := Lib.hid (containsMay_any h hn)
  rw [hm] at K1
  have H := Lib.hid h
  have HL := Lib.hid h.len
  have ML := Lib.hid (May.of hm)
  clear h hm
  go_enter Tryd.func18, Tryd.ntmps18
  go_wp2_with fail
  refine K1.out.mono ?_
  rintro e w1 ⟨rfl, B1⟩
  have K2 := Lib.hid (cloneI_any (H.out.next B1) hn)
  have B1 := Lib.hid B1
  clear K1
  go_wp2_with fail
  refine K2.out.mono ?_
  rintro e w2 ⟨v, rfl, R, B2⟩
  have B2 := Lib.hid (below_step B1.out B2)
  clear K2
  rcases R.row with ⟨rfl, hl⟩ | ⟨g, cap, rfl, hg, h1, h2, R3⟩
  · have KN := Lib.hid (sortStable_none w2 (.func (.func 13) #[] #[]))
    have HE := Lib.hid hl
    clear R hl
    go_wp2_with fail
    refine KN.out.mono ?_
    rintro e z ⟨rfl, rfl⟩
    go_wp2_with fail
    go_ret
    refine ⟨_, [], rfl, ?_, .inl ⟨rfl, rfl⟩, B2.out⟩
    rw [HE.out]; exact isSort_nil
  · have KN := Lib.hid (sortStable_any (c := cap) rankCmp_any R3 ML.out HL.out hn)
    have HG := Lib.hid (show w.heap.size ≤ g from Nat.le_trans B1.out.size hg)
    have hl := HL.out
    rw [hl] at h1 ⊢
    have HS := Lib.hid (show n ≤ cap ∧ cap ≤ 9223372036854775807 from ⟨h1, h2⟩)
    clear R R3 hg h1 h2 hl
    go_wp2_with fail
    refine KN.out.mono ?_
    rintro e z ⟨rfl, s, st, T⟩
    have ST := Lib.hid st; have T := Lib.hid T
    clear KN st
    go_wp2_with fail
    go_ret
    have hl : s.length = n := ST.out.len.trans HL.out
    exact ⟨_, s, rfl, ST.out, .inr ⟨g, cap, by rw [hl]; rfl, HG.out, by rw [hl]; exact HS.out.1, HS.out.2, T.out.row⟩, B2.out.trans (T.out.below HG.out B2.out.size)⟩
theorem rankSort_none {A : Option Addr} {n c : Nat} {l : List It} {w : World} (h : Its w A n c l) (hn : n ≤ 100000) (hm : l.all mayB = false) : Calls Tryd.prog 18 #[.slice A n c] w fun e w' => e = .returned (.slice none 0 0) ∧ Below w.heap.size w w' := by
  have K1 := Lib.hid (containsMay_any h hn)
  rw [hm] at K1
  clear h hm
  go_enter Tryd.func18, Tryd.ntmps18
  go_wp2_with fail
  refine K1.out.mono ?_
  rintro e w1 ⟨rfl, B1⟩
  clear K1
  go_wp2_with fail
  go_ret
  exact ⟨rfl, B1⟩
theorem rankLeast_none {A : Option Addr} {n c : Nat} {l : List It} {w : World} (h : Its w A n c l) (hn : n ≤ 100000) (hm : l.all mayB = false) (k : Int) (hk : -9223372036854775808 ≤ k ∧ k ≤ 9223372036854775807) : Calls Tryd.prog 19 #[.slice A n c, .int .i64 k] w fun e w' => RetL [] w e w' := by
  have K1 := Lib.hid (rankSort_none h hn hm)
  have K2 := Lib.hid (fun W => cloneI_any (Its.none_ W 0 0 rfl (by decide)) (by decide))
  have e1 : min (max k 0) (0 : Int) = 0 := by omega
  clear h hm
  go_enter Tryd.func19, Tryd.ntmps19
  go_wp2_with fail
  refine K1.out.mono ?_
  rintro e w1 ⟨rfl, B1⟩
  clear K1
  go_wp2_with fail
  refine (K2.out _).mono ?_
  rintro e w2 ⟨v, rfl, R, B2⟩
  have B2 := Lib.hid (below_step B1 B2)
  clear B1 K2
  go_wp2_with fail
  go_ret
  obtain ⟨A', c', hv, I, _, _⟩ := R.slice
  exact ⟨A', c', by rw [← hv]; rfl, I, B2.out⟩
theorem Got.its {b : Nat} {v : Value} {s : List It} {W : World} (h : Got b v s W) : ∃ A c, v = .slice A s.length c ∧ Its W A s.length c s := by
  rcases h with ⟨rfl, rfl⟩ | ⟨g, cap, rfl, h1, h2, h3, h4⟩
  · exact ⟨none, 0, rfl, Its.none_ _ _ _ rfl (by decide)⟩
  · exact ⟨_, cap, rfl, h4.its rfl h2 h3⟩
theorem rankLeast_any {A : Option Addr} {n c : Nat} {l : List It} {w : World} (h : Its w A n c l) (hn : n ≤ 100000) (hm : l.all mayB = true) (k : Int) (hk : -9223372036854775808 ≤ k ∧ k ≤ 9223372036854775807) : Calls Tryd.prog 19 #[.slice A n c, .int .i64 k] w fun e w' => ∃ s, IsSort l s ∧ RetL (s.take k.toNat) w e w' := by
  have K1 := Lib.hid (rankSort_any h hn hm)
  have HL := Lib.hid h.len
  clear h hm
  go_enter Tryd.func19, Tryd.ntmps19
  go_wp2_with fail
  refine K1.out.mono ?_
  rintro e w1 ⟨v, s, rfl, st, G, B1⟩
  have B1 := Lib.hid B1
  have ST := Lib.hid st
  have sl : s.length = n := st.len.trans HL.out
  clear K1 st
  rcases G with ⟨rfl, hl⟩ | ⟨g, cap, rfl, hg, h1, h2, R3⟩
  · have HE := Lib.hid hl
    have K2 := Lib.hid (fun W => cloneI_any (Its.none_ W 0 0 rfl (by decide)) (by decide))
    have e1 : min (max k 0) (0 : Int) = 0 := by omega
    clear hl
    go_wp2_with fail
    refine (K2.out _).mono ?_
    rintro e w2 ⟨v, rfl, R, B2⟩
    have B2 := Lib.hid (below_step B1.out B2)
    clear K2
    go_wp2_with fail
    go_ret
    obtain ⟨A', c', hv, I, _, _⟩ := R.slice
    refine ⟨s, ST.out, ?_⟩
    rw [HE.out, List.take_nil]
    exact ⟨A', c', by rw [← hv]; rfl, I, B2.out⟩
  · rw [sl] at h1 ⊢
    obtain ⟨m, hm⟩ : ∃ m, m = min k.toNat n := ⟨_, rfl⟩
    have e1 : min (max k 0) (n : Int) = (m : Int) := by omega
    have m0 : (0 : Int) ≤ m := by omega
    have mc : (m : Int) ≤ cap := by omega
    have mn : m ≤ n := by omega
    have I := (R3.its sl h1 h2).front m mn
    have TK : Hid (s.take m = s.take k.toNat) := by
      unfold Hid
      rw [hm, ← sl]
      by_cases q : k.toNat ≤ s.length
      · rw [Nat.min_eq_left q]
      · rw [Nat.min_eq_right (by omega), List.take_length, List.take_of_length_le (by omega)]
    rw [TK.out] at I
    have K2 := Lib.hid (cloneI_any I (by omega))
    have SL := Lib.hid sl
    clear R3 I hg h1 h2 hm sl
    go_wp2_with fail
    refine K2.out.mono ?_
    rintro e w2 ⟨v, rfl, R, B2⟩
    have B2 := Lib.hid (below_step B1.out B2)
    clear K2
    go_wp2_with fail
    go_ret
    obtain ⟨A', c', hv, I, _, _⟩ := R.slice
    exact ⟨s, ST.out, A', c', by rw [← hv]; rfl, I, B2.out⟩
theorem prog10 : Prog10 where
  cmp := rankCmp_any
  check := rankCheck_any
  rank := rankRank_any
  sort := fun h hn hm => (rankSort_any h (by omega) hm).mono fun e w' ⟨v, s, he, st, G, B⟩ => by
    obtain ⟨A, c, rfl, I⟩ := G.its
    exact ⟨s, st, A, c, he, I, B⟩
  sortNo := fun h hn hm => (rankSort_none h (by omega) hm).mono fun e w' ⟨he, B⟩ => ⟨none, 0, he, Its.none_ _ _ _ rfl (by decide), B⟩
  least := fun h hn hm k hk => rankLeast_any h (by omega) hm k hk
  leastNo := fun h hn hm k hk => rankLeast_none h (by omega) hm k hk
end Go.Proofs.YthollkngfibgaaaDoor
namespace Go.Proofs.YthollkngfibgaaaDoor
open Go.RowKit
/-- Blocks of the call's own, none twice; below them nothing has turned. -/
structure Own (w : World) (l : List (Nat × Array Value)) (W : World) : Prop where
  box : ∀ (k g : Nat) (cs : Array Value), l[k]? = some (g, cs) → w.heap.size ≤ g ∧ Box W g cs
  ne : ∀ (i j g g' : Nat) (cs cs' : Array Value), l[i]? = some (g, cs) → l[j]? = some (g', cs') → i ≠ j → g ≠ g'
  bl : Below w.heap.size w W
section
variable {w W W' : World} {l : List (Nat × Array Value)}
theorem Own.new (w : World) : Own w [] w := ⟨fun k g cs h => by simp at h, fun i j g g' cs cs' h => by simp at h, Below.refl _ _⟩
theorem Own.drew (h : Own w l W) : Own w l W.drew := ⟨fun k g cs hk => ⟨(h.box k g cs hk).1, (h.box k g cs hk).2.drew⟩, h.ne, h.bl.drew⟩
theorem Own.next (h : Own w l W) (hb : Below W.heap.size W W') : Own w l W' := ⟨fun k g cs hk => ⟨(h.box k g cs hk).1, (h.box k g cs hk).2.next hb⟩, h.ne, below_step h.bl hb⟩
theorem Own.set (h : Own w l W) (k : Nat) {g : Nat} {cs : Array Value} (hk : l[k]? = some (g, cs)) (i : Nat) (u : Value) : Own w (l.set k (g, cs.setIfInBounds i u)) (W.setCell ⟨g, i, none⟩ u) := by
  have lk : k < l.length := (List.getElem?_eq_some_iff.1 hk).1
  have back : ∀ (j g' : Nat) (ds : Array Value), (l.set k (g, cs.setIfInBounds i u))[j]? = some (g', ds) → (j = k ∧ g' = g ∧ ds = cs.setIfInBounds i u) ∨ (j ≠ k ∧ l[j]? = some (g', ds)) := by
    intro j g' ds hj
    rw [List.getElem?_set] at hj
    split at hj
    · rename_i e
      subst e
      first | (rw [if_pos lk] at hj) | skip
      injection hj with hj
      injection hj with e1 e2
      exact Or.inl ⟨rfl, e1.symm, e2.symm⟩
    · rename_i e
      exact Or.inr ⟨fun e' => e e'.symm, hj⟩
  refine ⟨fun j g' ds hj => ?_, fun i' j g1 g2 c1 c2 h1 h2 hne => ?_, below_set h.bl (h.box k g cs hk).1 u⟩
  · rcases back j g' ds hj with ⟨_, rfl, rfl⟩ | ⟨hj1, hj2⟩
    · exact ⟨(h.box k g' cs hk).1, (h.box k g' cs hk).2.set i u⟩
    · exact ⟨(h.box j g' ds hj2).1, (h.box j g' ds hj2).2.far (h.ne j k g' g ds cs hj2 hk hj1) u⟩
  · rcases back _ _ _ h1 with ⟨rfl, rfl, rfl⟩ | ⟨a1, a2⟩
    · rcases back _ _ _ h2 with ⟨rfl, rfl, rfl⟩ | ⟨b1, b2⟩
      · exact absurd rfl hne
      · exact h.ne _ _ _ _ _ _ hk b2 hne
    · rcases back _ _ _ h2 with ⟨rfl, rfl, rfl⟩ | ⟨b1, b2⟩
      · exact h.ne _ _ _ _ _ _ a2 hk hne
      · exact h.ne _ _ _ _ _ _ a2 b2 hne
theorem Own.alloc (h : Own w l W) {g : Nat} (hg : W.heap.size = g) (cs : Array Value) (t : TypeId) : Own w (l ++ [(g, cs)]) (W.alloc (.cells cs t)) := by
  subst hg
  have back : ∀ (j g' : Nat) (ds : Array Value), (l ++ [(W.heap.size, cs)])[j]? = some (g', ds) → (j = l.length ∧ g' = W.heap.size ∧ ds = cs) ∨ (j < l.length ∧ l[j]? = some (g', ds)) := by
    intro j g' ds hj
    by_cases e : j < l.length
    · rw [List.getElem?_append_left e] at hj; exact Or.inr ⟨e, hj⟩
    · rw [List.getElem?_append_right (by omega)] at hj
      by_cases e2 : j = l.length
      · subst e2
        rw [Nat.sub_self] at hj
        injection hj with hj
        injection hj with e1 e2
        exact Or.inl ⟨rfl, e1.symm, e2.symm⟩
      · rw [List.getElem?_eq_none (by simp; omega)] at hj; cases hj
  refine ⟨fun j g' ds hj => ?_, fun i j g1 g2 c1 c2 h1 h2 hne => ?_, below_al h.bl _⟩
  · rcases back j g' ds hj with ⟨_, rfl, rfl⟩ | ⟨_, hj2⟩
    · exact ⟨h.bl.size, Box.new W ds t⟩
    · exact ⟨(h.box j g' ds hj2).1, (h.box j g' ds hj2).2.alloc _⟩
  · rcases back _ _ _ h1 with ⟨rfl, rfl, rfl⟩ | ⟨a1, a2⟩
    · rcases back _ _ _ h2 with ⟨rfl, rfl, rfl⟩ | ⟨b1, b2⟩
      · exact absurd rfl hne
      · have := (h.box _ _ _ b2).2.lt; omega
    · rcases back _ _ _ h2 with ⟨rfl, rfl, rfl⟩ | ⟨b1, b2⟩
      · have := (h.box _ _ _ a2).2.lt; omega
      · exact h.ne _ _ _ _ _ _ a2 b2 hne
theorem Own.put3 (h : Own w l W) (k : Nat) {g : Nat} {z0 z1 z2 : Value} (hk : l[k]? = some (g, #[z0, z1, z2])) (a b c : Value) :
    Own w (l.set k (g, #[a, b, c])) (((W.setCell ⟨g, 0, none⟩ a).setCell ⟨g, 1, none⟩ b).setCell ⟨g, 2, none⟩ c) := by
  have lk : k < l.length := (List.getElem?_eq_some_iff.1 hk).1
  have h1 := h.set k hk 0 a
  have h2 := h1.set k (List.getElem?_set_self lk) 1 b
  rw [List.set_set] at h2
  have h3 := h2.set k (List.getElem?_set_self lk) 2 c
  rw [List.set_set] at h3
  exact h3
theorem Own.put2 (h : Own w l W) (k : Nat) {g : Nat} {z0 z1 : Value} (hk : l[k]? = some (g, #[z0, z1])) (a b : Value) :
    Own w (l.set k (g, #[a, b])) ((W.setCell ⟨g, 0, none⟩ a).setCell ⟨g, 1, none⟩ b) := by
  have lk : k < l.length := (List.getElem?_eq_some_iff.1 hk).1
  have h1 := h.set k hk 0 a
  have h2 := h1.set k (List.getElem?_set_self lk) 1 b
  rw [List.set_set] at h2
  exact h2
end
theorem size_alloc (w : World) (o : Obj) : (w.alloc o).heap.size = w.heap.size + 1 := by simp
end Go.Proofs.YthollkngfibgaaaDoor
namespace Go.Proofs.YthollkngfibgaaaDoor
open Go.RowKit
set_option linter.unusedVariables false
set_option linter.unusedSimpArgs false
set_option maxHeartbeats 8000000
set_option maxRecDepth 100000
def ia : It := ⟨⟨#[120]⟩, 6, 3⟩
def ib : It := ⟨⟨#[121]⟩, 5, 2⟩
def ic : It := ⟨⟨#[97]⟩, 4, 2⟩
theorem sgn_lt10 {a b : Nat} (h : a < b) : sgn a b = -1 := by unfold sgn; (repeat' split) <;> omega
theorem cmp_ab : cmpI ia ib = -1 := by unfold cmpI ia ib; rw [sgn_lt10 (by decide)]; rfl
theorem cmp_cb : cmpI ic ib = -1 := by unfold cmpI ic ib; rw [sgn_lt10 (by decide)]; rfl
theorem cmp_ca : cmpI ic ia = -1 := by
  unfold cmpI ic ia
  rw [if_pos (sgn_zero.2 (by decide))]
  unfold ksg
  rw [if_pos (by rw [ByteArray.toList_eq, ByteArray.toList_eq]; decide)]
theorem cmp_ac : cmpI ia ic = 1 := by rw [cmpI_anti ic ia, cmp_ca]; rfl
theorem awake_sort {s : List It} (h : IsSort [ib, ia, ic] s) : s = [ic, ia, ib] := by
  have m : May [ib, ia, ic] := by
    intro y hy
    simp only [List.mem_cons, List.not_mem_nil, or_false] at hy
    rcases hy with rfl | rfl | rfl <;> decide
  refine h.one m (Keeps.sort ?_ ?_)
  · have k1 : Keeps ([ib] ++ [ia, ic]) ([ia, ic] ++ [ib]) := Keeps.turn (fun y hy => by rw [List.mem_singleton] at hy; subst hy; decide) (fun y hy => m y (.tail _ hy)) (fun x hx y hy => by
      rw [List.mem_singleton] at hx
      subst hx
      simp only [List.mem_cons, List.not_mem_nil, or_false] at hy
      rcases hy with rfl | rfl
      · rw [cmp_ab]; decide
      · rw [cmp_cb]; decide)
    have k2 : Keeps ([ia] ++ [ic]) ([ic] ++ [ia]) := Keeps.turn (fun y hy => by rw [List.mem_singleton] at hy; subst hy; decide) (fun y hy => by rw [List.mem_singleton] at hy; subst hy; decide) (fun x hx y hy => by
      rw [List.mem_singleton] at hx hy
      subst hx hy
      rw [cmp_ca]; decide)
    exact k1.trans (k2.app (Keeps.refl [ib]))
  · refine List.pairwise_cons.2 ⟨fun y hy => ?_, List.pairwise_cons.2 ⟨fun y hy => ?_, List.pairwise_singleton _ _⟩⟩
    · simp only [List.mem_cons, List.not_mem_nil, or_false] at hy
      rcases hy with rfl | rfl
      · rw [cmp_ca]; decide
      · rw [cmp_cb]; decide
    · rw [List.mem_singleton] at hy
      subst hy
      rw [cmp_ab]; decide
theorem f52 : Fq 5 2 := ⟨lt64 (by decide), lt64 (by decide), by decide, by decide⟩
theorem text52 : dtext 5 ++ 47 :: dtext 2 = [53, 47, 50] := by rw [dt 5 (by decide), dt 2 (by decide)]; rfl
theorem rnk_b : rnk ib = (5, 2, 0) := by unfold rnk; rw [if_pos (chk_zero.2 (by decide))]; rfl
theorem Box.its {W : World} {g : Nat} {cs : Array Value} {l : List It} (h : Box W g cs) (e : cs.toList = icells l) (f : ∀ x ∈ l, x.Fit) (hn : l.length ≤ 9223372036854775807) : Its W (some ⟨g, 0, none⟩) l.length l.length l := by
  refine ⟨rfl, Nat.le_refl _, hn, fun j hj => ⟨_, rfl, ?_⟩, f⟩
  have at_ : ∀ (i : Nat) (u : Value), (icells l)[i]? = some u → W.cell? ((⟨g, 0, none⟩ : Addr).add i) = some u := by
    intro i u hu
    rw [add_at rfl, Nat.zero_add]
    refine h.cell ?_
    rw [← e] at hu
    simpa using hu
  obtain ⟨a0, a1, a2⟩ := icells_at l j hj
  exact ⟨at_ _ _ a0, at_ _ _ a1, at_ _ _ a2⟩
theorem fit_a : ia.Fit := ⟨by decide, by decide⟩
theorem fit_b : ib.Fit := ⟨by decide, by decide⟩
theorem fit_c : ic.Fit := ⟨by decide, by decide⟩
theorem awake10 (w : World) : Calls Tryd.prog 9 #[] w fun e w' => e = .returned (.bool true) ∧ Below w.heap.size w w' := by
  have P := Lib.hid prog10
  have M1 : Hid (∀ W : World, Calls Tryd.prog 13 #[.agg #[.string ⟨#[120]⟩, .int .u64 6, .int .u64 3], .agg #[.string ⟨#[121]⟩, .int .u64 5, .int .u64 2]] W fun e W' => e = .returned (.int .i64 (-1)) ∧ Below W.heap.size W W') := fun W => by have := P.out.cmp ia ib fit_a fit_b W; rw [cmp_ab] at this; exact this
  have M2 : Hid (∀ W : World, Calls Tryd.prog 13 #[.agg #[.string ⟨#[120]⟩, .int .u64 6, .int .u64 3], .agg #[.string ⟨#[97]⟩, .int .u64 4, .int .u64 2]] W fun e W' => e = .returned (.int .i64 1) ∧ Below W.heap.size W W') := fun W => by have := P.out.cmp ia ic fit_a fit_c W; rw [cmp_ac] at this; exact this
  have M3 : Hid (∀ W : World, Calls Tryd.prog 15 #[.agg #[.string ⟨#[]⟩, .int .u64 0, .int .u64 0]] W fun e W' => e = .returned (.int .i64 7) ∧ Below W.heap.size W W') := fun W => P.out.check ⟨⟨#[]⟩, 0, 0⟩ W
  have M4 : Hid (∀ W : World, Calls Tryd.prog 10 #[.agg #[.string ⟨#[121]⟩, .int .u64 5, .int .u64 2]] W fun e W' => RetA3 (5, 2, 0) W e W') := fun W => by have := P.out.rank ib fit_b W; rw [rnk_b] at this; exact this
  obtain ⟨g, hg⟩ : ∃ g, w.heap.size = g := ⟨_, rfl⟩
  have O := ((((Own.new w).alloc hg #[.string ⟨#[120]⟩, .int .u64 6, .int .u64 3] 24).alloc (show _ = g + 1 by simp [hg]) #[.string ⟨#[121]⟩, .int .u64 5, .int .u64 2] 24).alloc (show _ = g + 1 + 1 by simp [hg]) #[.string ⟨#[97]⟩, .int .u64 4, .int .u64 2] 24).alloc (show _ = g + 1 + 1 + 1 by simp [hg]) #[.string ⟨#[121]⟩, .int .u64 5, .int .u64 2, .string ⟨#[120]⟩, .int .u64 6, .int .u64 3, .string ⟨#[97]⟩, .int .u64 4, .int .u64 2] 24
  go_enter Tryd.func9, Tryd.ntmps9
  go_wp2_with fail
  clear hg
  generalize (((w.alloc (.cells #[.string ⟨#[120]⟩, .int .u64 6, .int .u64 3] 24)).alloc (.cells #[.string ⟨#[121]⟩, .int .u64 5, .int .u64 2] 24)).alloc (.cells #[.string ⟨#[97]⟩, .int .u64 4, .int .u64 2] 24)).alloc (.cells #[.string ⟨#[121]⟩, .int .u64 5, .int .u64 2, .string ⟨#[120]⟩, .int .u64 6, .int .u64 3, .string ⟨#[97]⟩, .int .u64 4, .int .u64 2] 24) = W0 at *
  have I0 : Its W0 (some ⟨g + 1 + 1 + 1, 0, none⟩) 3 3 [ib, ia, ic] := Box.its (l := [ib, ia, ic]) (O.box 3 _ _ rfl).2 rfl (fun x hx => by
    simp only [List.mem_cons, List.not_mem_nil, or_false] at hx
    rcases hx with rfl | rfl | rfl
    · exact fit_b
    · exact fit_a
    · exact fit_c) (by decide)
  generalize g + 1 + 1 + 1 = g3 at *
  generalize g + 1 + 1 = g2 at *
  generalize g + 1 = g1 at *
  refine (P.out.sort I0 (by decide) (by decide)).mono ?_
  rintro e W1 ⟨s, st, A, c, rfl, I1, B1⟩
  obtain rfl := awake_sort st
  replace O := O.next B1
  replace I1 : Its W1 A 3 c [ic, ia, ib] := I1
  rw [show [ic, ia, ib].length = 3 from rfl]
  clear st I0 B1
  obtain ⟨ad, hj, rfl, -⟩ := I1.read 0 (by decide)
  obtain ⟨e1, e2, e3⟩ := (O.box 1 _ _ rfl).2.three
  go_wp2_with fail
  refine (M4.out _).mono ?_
  rintro e W2 ⟨A1, n1, c1, A2, n2, c2, rfl, L1, L2, B2⟩
  clear e1 e2 e3
  replace O := (O.next B2).alloc rfl #[.slice A1 n1 c1, .slice A2 n2 c2] 30
  replace I1 := (I1.next B2).alloc (.cells #[.slice A1 n1 c1, .slice A2 n2 c2] 30)
  replace L1 := L1.alloc (.cells #[.slice A1 n1 c1, .slice A2 n2 c2] 30)
  replace L2 := L2.alloc (.cells #[.slice A1 n1 c1, .slice A2 n2 c2] 30)
  clear B2
  go_upto_region 4 with fail
  generalize W2.alloc (.cells #[.slice A1 n1 c1, .slice A2 n2 c2] 30) = W3 at *
  generalize W2.heap.size = gq at *
  obtain ⟨a0, a1, a2⟩ := (O.box 0 _ _ rfl).2.three
  obtain ⟨b0, b1, b2⟩ := (O.box 1 _ _ rfl).2.three
  obtain ⟨d0, d1, d2⟩ := (O.box 2 _ _ rfl).2.three
  obtain ⟨q0, q1⟩ := (O.box 4 _ _ rfl).2.two
  have BL := Lib.hid O.bl
  clear O
  obtain ⟨ad', hj0, e, l0, l1, l2, -⟩ := I1.read 0 (by decide)
  obtain rfl := Option.some.inj e
  obtain ⟨ad', hj2, e, m0, m1, m2, -⟩ := I1.read 2 (by decide)
  obtain rfl := Option.some.inj e
  rw [show ad.add (0 * 3) = ad from by unfold Addr.add; rfl] at l0 l1 l2
  rw [show 2 * 3 = 6 from rfl] at m0 m1 m2
  replace l0 : W3.cell? ad = some (.string ⟨#[97]⟩) := l0
  replace l1 : W3.cell? ⟨ad.block, ad.off + 1, none⟩ = some (.int .u64 4) := l1
  replace l2 : W3.cell? ⟨ad.block, ad.off + 2, none⟩ = some (.int .u64 2) := l2
  replace m0 : W3.cell? ⟨ad.block, ad.off + 6, none⟩ = some (.string ⟨#[121]⟩) := m0
  replace m1 : W3.cell? ⟨ad.block, ad.off + 6 + 1, none⟩ = some (.int .u64 5) := m1
  replace m2 : W3.cell? ⟨ad.block, ad.off + 6 + 2, none⟩ = some (.int .u64 2) := m2
  have KT : Hid (∀ W : World, Below W3.heap.size W3 W → Calls Tryd.prog 24 #[.agg #[.slice A1 n1 c1, .slice A2 n2 c2]] W fun e W' => e = .returned (.string ⟨#[53, 47, 50]⟩) ∧ Below W.heap.size W W') := fun W hb => by have := ratText_yes (L1.next hb) (L2.next hb) f52; rw [text52] at this; exact this
  have KL : Hid (∀ W : World, Below W3.heap.size W3 W → Calls Tryd.prog 19 #[.slice (some ad) 3 c, .int .i64 2] W fun e W' => ∃ A' c', e = .returned (.slice A' 2 c') ∧ Below W.heap.size W W') := fun W hb =>
    (P.out.least (I1.next hb) (by decide) (by decide) 2 (by decide)).mono fun e W' ⟨s, st, A', c', he, _, hB⟩ => ⟨A', c', by rw [he, List.length_take, st.len]; rfl, hB⟩
  clear I1 L1 L2 hj hj0 hj2 P
  go_region_held3 (fun w' => w'.cell? ⟨g, 0, none⟩ = some (.string ⟨#[120]⟩) ∧ w'.cell? ⟨g, 1, none⟩ = some (.int .u64 6) ∧ w'.cell? ⟨g, 2, none⟩ = some (.int .u64 3) ∧ w'.cell? ⟨g1, 0, none⟩ = some (.string ⟨#[121]⟩) ∧ w'.cell? ⟨g1, 1, none⟩ = some (.int .u64 5) ∧ w'.cell? ⟨g1, 2, none⟩ = some (.int .u64 2) ∧ w'.cell? ⟨g2, 0, none⟩ = some (.string ⟨#[97]⟩) ∧ w'.cell? ⟨g2, 1, none⟩ = some (.int .u64 4) ∧ w'.cell? ⟨g2, 2, none⟩ = some (.int .u64 2) ∧ w'.cell? ad = some (.string ⟨#[97]⟩) ∧ w'.cell? ⟨ad.block, ad.off + 1, none⟩ = some (.int .u64 4) ∧ w'.cell? ⟨ad.block, ad.off + 2, none⟩ = some (.int .u64 2) ∧ w'.cell? ⟨ad.block, ad.off + 6, none⟩ = some (.string ⟨#[121]⟩) ∧ w'.cell? ⟨ad.block, ad.off + 6 + 1, none⟩ = some (.int .u64 5) ∧ w'.cell? ⟨ad.block, ad.off + 6 + 2, none⟩ = some (.int .u64 2) ∧ w'.cell? ⟨gq, 0, none⟩ = some (.slice A1 n1 c1) ∧ w'.cell? ⟨gq, 1, none⟩ = some (.slice A2 n2 c2))
    ((refine ⟨?_, ?_, ?_, ?_, ?_, ?_, ?_, ?_, ?_, ?_, ?_, ?_, ?_, ?_, ?_, ?_, ?_⟩ <;> (repeat (first | with_reducible exact a0 | with_reducible exact a1 | with_reducible exact a2 | with_reducible exact b0 | with_reducible exact b1 | with_reducible exact b2 | with_reducible exact d0 | with_reducible exact d1 | with_reducible exact d2 | with_reducible exact l0 | with_reducible exact l1 | with_reducible exact l2 | with_reducible exact m0 | with_reducible exact m1 | with_reducible exact m2 | with_reducible exact q0 | with_reducible exact q1 | with_reducible refine keep_drew ?_ | with_reducible refine keep_cell (by assumption) ?_))))
    (first
      | (go_at_call 13; (with_reducible refine (M1.out _).mono ?_); rintro e v ⟨rfl, BZ⟩)
      | (go_at_call 13; (with_reducible refine (M2.out _).mono ?_); rintro e v ⟨rfl, BZ⟩)
      | (go_at_call 15; (with_reducible refine (M3.out _).mono ?_); rintro e v ⟨rfl, BZ⟩)
      | (go_at_call 24; (with_reducible refine (KT.out _ ?_).mono ?_); (· repeat (first | with_reducible exact Below.refl _ _ | with_reducible exact (Below.refl _ _).drew | with_reducible refine Below.drew ?_ | refine below_step ?_ (by assumption))); rintro e v ⟨rfl, BZ⟩)
      | (go_at_call 19; (with_reducible refine (KL.out _ ?_).mono ?_); (· repeat (first | with_reducible exact Below.refl _ _ | with_reducible exact (Below.refl _ _).drew | with_reducible refine Below.drew ?_ | refine below_step ?_ (by assumption))); rintro e v ⟨A', c', rfl, BZ⟩))
  all_goals go_wp2_with fail
  all_goals go_ret
  all_goals refine ⟨rfl, ?_⟩
  all_goals (repeat (first | with_reducible exact BL.out.drew | refine below_step ?_ (by assumption)))
end Go.Proofs.YthollkngfibgaaaDoor
