/- The walk of the document's answer: Read. -/
import Derived.Test.YtgafejolijjiiaaRefE
import Derived.Test.YtgafejolijjiiaaRefH
import Derived.Test.YtgafejolijjiiaaWalkH
namespace Go.Proofs.Ytgafejolijjiiaa
open Go.RowKit
set_option linter.unusedSimpArgs false
set_option linter.unusedVariables false

/-- What is read is no less than what stands before, times so many tens; and it fits. -/
theorem runTo_ge : ∀ (l : List UInt8) (m r : Nat), runTo l m = some r → m * 10 ^ l.length ≤ r ∧ (Fits m → Fits r)
  | [], m, r, h => by
    rw [runTo] at h
    obtain rfl := Option.some.inj h
    exact ⟨by simp, id⟩
  | c :: l, m, r, h => by
    rw [runTo] at h
    by_cases d : digB m (c.toNat : Int) = true
    · rw [if_pos d] at h
      obtain ⟨h1, h2⟩ := runTo_ge l _ r h
      have e : digN m (c.toNat : Int) = m * 10 + ((c.toNat : Int) - 48).toNat := by unfold digN; rw [if_pos d]
      refine ⟨?_, fun _ => h2 (fits_digN _ _)⟩
      rw [e, Nat.add_mul] at h1
      rw [List.length_cons, Nat.pow_succ, Nat.mul_comm (10 ^ l.length), ← Nat.mul_assoc]
      omega
    · rw [if_neg d] at h
      cases h
/-- A text that is too long has no number. -/
theorem readO_long {l : List UInt8} (h : 39 < l.length) : readO l = none := by
  cases l with
  | nil => simp at h
  | cons c l =>
    unfold readO
    by_cases e : c = 48
    · rw [if_pos (Or.inr ⟨by rw [e]; rfl, by omega⟩)]
    · rw [if_neg (by rintro (k | ⟨k, _⟩); (· cases k); exact e (Option.some.inj k))]
      cases hr : runTo (c :: l) 0 with
      | none => rfl
      | some r =>
        exfalso
        have fr := (runTo_ge _ _ _ hr).2 (by unfold Fits; decide)
        rw [runTo] at hr
        by_cases d : digB 0 (c.toNat : Int) = true
        · rw [if_pos d] at hr
          have g := (runTo_ge _ _ _ hr).1
          have en : digN 0 (c.toNat : Int) = ((c.toNat : Int) - 48).toNat := by unfold digN; rw [if_pos d]; omega
          have c48 : c.toNat ≠ 48 := fun k => e (UInt8.toNat_inj.1 (by rw [k]; rfl))
          have ge : 1 ≤ digN 0 (c.toNat : Int) := by
            rw [en]; unfold digB at d; simp at d; omega
          have p := Nat.pow_le_pow_right (show 0 < 10 by decide) (show 39 ≤ l.length by simp at h; omega)
          have q := Nat.mul_le_mul ge p
          unfold Fits at fr
          have : (10 : Nat) ^ 39 = 1000000000000000000000000000000000000000 := by decide
          omega
        · rw [if_neg d] at hr
          cases hr

set_option maxHeartbeats 1000000 in
theorem refRead_empty (s : ByteArray) (h : s.toList = []) (w : World) : Calls Try.prog 25 #[.string s] w fun e w' => e = .returned (.tuple #[U 0, .bool false]) ∧ Below w.heap.size w w' := by
  have hz : (s.size : Int) = 0 := by
    have e : s.toList = s.data.toList := ByteArray.toList_eq s
    have h2 : s.data.toList.length = s.size := by simp
    rw [← e, h] at h2
    simp at h2; omega
  go_enter Try.func25, Try.ntmps25
  go_wp2_with fail
  exact bodyPost_ret (v := .tuple #[U 0, .bool false]) (by simp [results, Try.results25, go_sem, hi_zero, lo_zero]) rfl ⟨rfl, two_bel _ _ _⟩
set_option maxHeartbeats 1000000 in
theorem refRead_long (s : ByteArray) (h : 39 < (s.size : Int)) (hs : s.size ≤ maxLen) (w : World) : Calls Try.prog 25 #[.string s] w fun e w' => e = .returned (.tuple #[U 0, .bool false]) ∧ Below w.heap.size w w' := by
  unfold maxLen at hs
  have hz : ¬ (s.size : Int) = 0 := by omega
  have hb : ((s.size : Int) == 0) = false := by simpa using hz
  go_enter Try.func25, Try.ntmps25
  go_wp2_with fail
  exact bodyPost_ret (v := .tuple #[U 0, .bool false]) (by simp [results, Try.results25, go_sem, hi_zero, lo_zero]) rfl ⟨rfl, two_bel _ _ _⟩
set_option maxHeartbeats 1000000 in
theorem refRead_nought (s : ByteArray) (hz : 0 < s.size) (h0 : (s[0].toNat : Int) = 48) (h1 : 1 < (s.size : Int)) (h2 : ¬ 39 < (s.size : Int)) (w : World) : Calls Try.prog 25 #[.string s] w fun e w' => e = .returned (.tuple #[U 0, .bool false]) ∧ Below w.heap.size w w' := by
  have hb : ((s.size : Int) == 0) = false := beq_eq_false_iff_ne.2 (by omega)
  go_enter Try.func25, Try.ntmps25
  go_wp2_with fail
  exact bodyPost_ret (v := .tuple #[U 0, .bool false]) (by simp [results, Try.results25, go_sem, hi_zero, lo_zero]) rfl ⟨rfl, two_bel _ _ _⟩

set_option maxHeartbeats 4000000 in
set_option maxRecDepth 100000 in
theorem refRead_loop (s : ByteArray) (hz : 0 < s.size) (h0 : (s[0].toNat : Int) = 48 ∧ ¬ 1 < (s.size : Int) ∨ ¬ (s[0].toNat : Int) = 48) (hs : ¬ 39 < (s.size : Int)) (w : World) :
    Calls Try.prog 25 #[.string s] w fun e w' => e = .returned (.tuple #[U ((runTo s.data.toList 0).getD 0), .bool (runTo s.data.toList 0).isSome]) ∧ Below w.heap.size w w' := by
  obtain ⟨R, hR⟩ : ∃ R, runTo s.data.toList 0 = R := ⟨_, rfl⟩
  rw [hR]
  have HR := Lib.hid hR
  clear hR
  have hb : ((s.size : Int) == 0) = false := beq_eq_false_iff_ne.2 (by omega)
  go_enter Try.func25, Try.ntmps25
  go_upto_region 2 with fail
  go_cut [27] (fun s27 wx => s27 = .bool false ∧ wx = (w.alloc (.cells #[.int .u64 0, .int .u64 0] 24)).alloc (.cells #[.int .u64 0, .int .u64 0] 24))
  case first =>
    rcases h0 with ⟨h0, h1⟩ | h0
    · go_wp2_with fail
      go_meet
      exact ⟨rfl, rfl⟩
    · have hc : ((s[0].toNat : Int) == 48) = false := by simpa using h0
      go_wp2_with fail
      go_meet
      exact ⟨rfl, rfl⟩
  case rest =>
    obtain ⟨rfl, rfl⟩ := hcut
    go_wp2_with fail
    go_loopg [5, 6, 7, 8, 9] s.size (fun g i _ _ _ _ wr => ReadRel s w i wr g)
    case atStart => exact ⟨0, 0, by omega, rfl, by unfold Fits; decide, rfl, Rd.start w⟩
    case round =>
      clear h0 hb
      obtain ⟨k, n, hk, rfl, hn, hrun, T⟩ := hrel
      have HN := Lib.hid hn; have HK := Lib.hid hk; have HRun := Lib.hid hrun
      clear hn hrun
      have n0 := T.n0; have n1 := T.n1; have r0 := T.r0; have r1 := T.r1; have f0 := T.f0; have f1 := T.f1; have g0 := T.g0; have g1 := T.g1; have sz := T.sz
      by_cases lt : k < s.size
      · have lt' : (k : Int) < (s.size : Int) := by omega
        have st := Lib.hid (runTo_step (n := n) lt)
        clear hk
        by_cases c1 : (s[k].toNat : Int) < 48
        · have E1 : Hid (R = none) := by unfold Hid; rw [← HR.out, HRun.out, st.out, digB_no (Or.inl c1)]; rfl
          clear st HRun
          go_wp2_with fail
          go_light
          exact bodyPost_ret (v := .tuple #[U 0, .bool false]) (by simp [results, Try.results25, go_sem, hi_zero, lo_zero, r0, r1]) rfl ⟨by rw [E1.out]; rfl, (T.bl.setCell (by simp only []; omega) _).setCell (by simp only []; omega) _⟩
        · by_cases c2 : 57 < (s[k].toNat : Int)
          · have E1 : Hid (R = none) := by unfold Hid; rw [← HR.out, HRun.out, st.out, digB_no (Or.inr c2)]; rfl
            clear st HRun
            go_wp2_with fail
            go_light
            exact bodyPost_ret (v := .tuple #[U 0, .bool false]) (by simp [results, Try.results25, go_sem, hi_zero, lo_zero, r0, r1]) rfl ⟨by rw [E1.out]; rfl, (T.bl.setCell (by simp only []; omega) _).setCell (by simp only []; omega) _⟩
          · have ten : U 10 = .agg #[.int .u64 0, .int .u64 10] := by
              show Value.agg #[.int .u64 (hi 10), .int .u64 (lo 10)] = _
              rw [hi_small (by decide), lo_small (by decide)]; rfl
            obtain ⟨X, o1, KM, gm⟩ : ∃ X o1, Hid (∀ w, Calls Try.prog 18 #[U n, U 10] w fun e w' => e = .returned (.tuple #[U X, .bool o1]) ∧ Below w.heap.size w w') ∧ Hid (Fits X ∧ (o1 = true ∧ X = n * 10 ∨ o1 = false ∧ ¬ Fits (n * 10))) := by
              have k := refMul_any n 10 HN.out (by unfold Fits; decide)
              by_cases f : Fits (n * 10)
              · rw [cut_yes f, fitsB_yes f] at k
                exact ⟨n * 10, true, k, f, Or.inl ⟨rfl, rfl⟩⟩
              · rw [cut_no f, fitsB_no f] at k
                exact ⟨0, false, k, by unfold Fits; decide, Or.inr ⟨rfl, f⟩⟩
            rw [ten] at KM
            have c3 : 0 ≤ (s[k].toNat : Int) - 48 := by omega
            have c4 : (s[k].toNat : Int) - 48 ≤ 9 := by omega
            have WD : Word ((s[k].toNat : Int) - 48) := .mk (by omega) (by omega)
            obtain ⟨Y, o2, KA, ga⟩ : ∃ Y o2, Hid (∀ w, Calls Try.prog 12 #[U X, .agg #[.int .u64 0, .int .u64 ((s[k].toNat : Int) - 48)]] w fun e w' => e = .returned (.tuple #[U Y, .bool o2]) ∧ Below w.heap.size w w') ∧ Hid (o2 = true ∧ Fits (X + ((s[k].toNat : Int) - 48).toNat) ∧ Y = X + ((s[k].toNat : Int) - 48).toNat ∨ o2 = false ∧ ¬ Fits (X + ((s[k].toNat : Int) - 48).toNat)) := by
              have e : Value.agg #[.int .u64 0, .int .u64 ((s[k].toNat : Int) - 48)] = U ((s[k].toNat : Int) - 48).toNat := U_of (by rw [hi_small (by omega)]) (by rw [lo_small (by omega)]; omega)
              have kk := refAdd_any X ((s[k].toNat : Int) - 48).toNat gm.out.1 (fits_word _ WD)
              rw [← e] at kk
              by_cases f : Fits (X + ((s[k].toNat : Int) - 48).toNat)
              · rw [cut_yes f, fitsB_yes f] at kk
                exact ⟨_, true, kk, Or.inl ⟨rfl, f, rfl⟩⟩
              · rw [cut_no f, fitsB_no f] at kk
                exact ⟨0, false, kk, Or.inr ⟨rfl, f⟩⟩
            have DB := Lib.hid (digB_eq (n := n) (show 48 ≤ (s[k].toNat : Int) by omega) (show (s[k].toNat : Int) ≤ 57 by omega))
            have DN := Lib.hid (digN_eq (n := n) (show 48 ≤ (s[k].toNat : Int) by omega) (show (s[k].toNat : Int) ≤ 57 by omega))
            clear ten
            go_upto_region 10 with (go_at_call 18; refine (KM.out _).mono ?_; rintro e w1 ⟨rfl, hb1⟩)
            have T1 := (T.next hb1).alloc (.cells #[.int .u64 (hi X), .int .u64 (lo X)] 24)
            have x0 : (w1.alloc (.cells #[.int .u64 (hi X), .int .u64 (lo X)] 24)).cell? ⟨w1.heap.size, 0, none⟩ = some (.int .u64 (hi X)) := by simp [go_sem]
            have x1 : (w1.alloc (.cells #[.int .u64 (hi X), .int .u64 (lo X)] 24)).cell? ⟨w1.heap.size, 1, none⟩ = some (.int .u64 (lo X)) := by simp [go_sem]
            clear hb1 n0 n1 r0 r1 f0 f1 g0 g1 sz T KM
            generalize w1.alloc (.cells #[.int .u64 (hi X), .int .u64 (lo X)] 24) = W1 at *
            generalize w1.heap.size = gx at *
            have X1 : Hid (IntKind.u8.wrap ((s[k].toNat : Int) - 48) = (s[k].toNat : Int) - 48) := by unfold Hid; simp [IntKind.wrap, IntKind.bits, IntKind.signed]; omega
            have X2 : Hid (IntKind.u64.wrap ((s[k].toNat : Int) - 48) = (s[k].toNat : Int) - 48) := by unfold Hid; rw [IntKind.wrap_u64]; omega
            have xl : gx < W1.heap.size := cell_lt x0
            have sz := T1.sz
            go_cut [8, 9] (fun s8 s9 wx => ∃ o, s8 = .pointer (some ⟨o, 0, none⟩) ∧ s9 = .bool o2 ∧ wx.cell? ⟨o, 0, none⟩ = some (.int .u64 (hi Y)) ∧ wx.cell? ⟨o, 1, none⟩ = some (.int .u64 (lo Y)) ∧ Rd w n wx)
            case first =>
              clear DB DN st HRun HR gm ga c1 c2 HK HN
              go_region_held3 (fun w' => w'.cell? ⟨gx, 0, none⟩ = some (.int .u64 (hi X)) ∧ w'.cell? ⟨gx, 1, none⟩ = some (.int .u64 (lo X)))
                ((refine ⟨?_, ?_⟩ <;> (repeat (first | with_reducible exact x0 | with_reducible exact x1 | with_reducible refine keep_alloc ?_ _ | with_reducible refine keep_drew ?_ | with_reducible refine keep_set ?_ _ (by simp <;> omega) | with_reducible refine keep_cell (by assumption) ?_))))
                (first
                  | (go_at_call 12; rw [X1.out, X2.out]; refine (KA.out _).mono ?_; rintro e w2 ⟨rfl, hb2⟩; obtain ⟨hc2, hf2⟩ := bcell hb2; have z2 := hb2.size; (try simp only [World.size_alloc, World.size_drew, Nat.add_one_le_iff] at z2)))
              all_goals go_wp2_with fail
              all_goals go_meet
              all_goals go_light
              all_goals refine ⟨_, rfl, rfl, ?_, ?_, ?_⟩
              all_goals first
                | (simp [go_sem]; done)
                | (simp [go_sem, hc2, z2]; done)
                | (repeat (first | with_reducible exact T1 | with_reducible refine Rd.alloc ?_ _ | with_reducible refine Rd.set ?_ _ (by simp only []; omega) | with_reducible refine Rd.drew ?_ | with_reducible refine Rd.next ?_ (by assumption)))
            case rest =>
              obtain ⟨o, rfl, rfl, y0, y1, T2⟩ := hcut
              have n0 := T2.n0; have n1 := T2.n1; have r0 := T2.r0; have r1 := T2.r1; have f0 := T2.f0; have f1 := T2.f1; have g0 := T2.g0; have g1 := T2.g1
              clear T1 x0 x1 xl sz KA X1
              have END : Hid (o1 = false ∧ R = none ∨ o1 = true ∧ (o2 = false ∧ R = none ∨ o2 = true ∧ Fits Y ∧ runTo s.data.toList 0 = runTo (s.data.toList.drop (k + 1)) Y)) := by
                unfold Hid
                have no : ¬ Fits (n * 10 + ((s[k].toNat : Int) - 48).toNat) → R = none := by
                  intro f
                  rw [← HR.out, HRun.out, st.out, DB.out, fitsB_no f]; rfl
                rcases gm.out.2 with ⟨rfl, rfl⟩ | ⟨rfl, f⟩
                · refine Or.inr ⟨rfl, ?_⟩
                  rcases ga.out with ⟨rfl, f, rfl⟩ | ⟨rfl, f⟩
                  · refine Or.inr ⟨rfl, f, ?_⟩
                    rw [HRun.out, st.out, DB.out, fitsB_yes f, DN.out, cut_yes f]; rfl
                  · exact Or.inl ⟨rfl, no f⟩
                · exact Or.inl ⟨rfl, no (by unfold Fits at *; omega)⟩
              clear gm ga DB DN st HRun
              rcases END.out with ⟨rfl, e⟩ | ⟨rfl, ⟨rfl, e⟩ | ⟨rfl, fy, e⟩⟩
              · have E1 := Lib.hid e
                clear e END
                go_wp2_with fail
                go_light
                exact bodyPost_ret (v := .tuple #[U 0, .bool false]) (by simp [results, Try.results25, go_sem, hi_zero, lo_zero, r0, r1]) rfl ⟨by rw [E1.out]; rfl, (T2.bl.setCell (by simp only []; omega) _).setCell (by simp only []; omega) _⟩
              · have E1 := Lib.hid e
                clear e END
                go_wp2_with fail
                go_light
                exact bodyPost_ret (v := .tuple #[U 0, .bool false]) (by simp [results, Try.results25, go_sem, hi_zero, lo_zero, r0, r1]) rfl ⟨by rw [E1.out]; rfl, (T2.bl.setCell (by simp only []; omega) _).setCell (by simp only []; omega) _⟩
              · have E1 := Lib.hid e; have FY := Lib.hid fy
                clear e fy END
                go_wp2_with fail
                go_roundg (gk - 1)
                case measure => have := HK.out; omega
                case rel =>
                  go_light
                  exact ⟨k + 1, _, by have := HK.out; omega, by go_num, FY.out, E1.out, T2.put _⟩
      · have e : k = s.size := by omega
        have E1 : Hid (R = some n) := by unfold Hid; rw [← HR.out, HRun.out, List.drop_eq_nil_of_le (by simp [e])]; rfl
        have lt' : ¬ (k : Int) < (s.size : Int) := by omega
        clear e hk
        go_wp2_with fail
        go_light
        exact bodyPost_ret (v := .tuple #[U n, .bool true]) (by simp [results, Try.results25, go_sem, r0, r1]) rfl ⟨by rw [E1.out]; rfl, (T.bl.setCell (by simp only []; omega) _).setCell (by simp only []; omega) _⟩

/-- The document's Read. -/
theorem refRead_any (s : ByteArray) (hs : s.size ≤ maxLen) (w : World) : Calls Try.prog 25 #[.string s] w fun e w' => e = .returned (.tuple #[U (readN s.data.toList), .bool (readB s.data.toList)]) ∧ Below w.heap.size w w' := by
  have el : s.toList = s.data.toList := ByteArray.toList_eq s
  have hl : s.data.toList.length = s.size := by simp
  by_cases h : s.toList = []
  · have e : readO s.data.toList = none := by unfold readO; rw [if_pos (Or.inl (by rw [← el]; exact h))]
    obtain ⟨e1, e2⟩ := readN_none e
    rw [e1, e2]
    exact refRead_empty s h w
  · have hz : 0 < s.size := by
      have h1 : s.data.toList ≠ [] := by rw [← el]; exact h
      have := List.length_pos_iff.2 h1
      omega
    by_cases big : 39 < (s.size : Int)
    · obtain ⟨e1, e2⟩ := readN_none (readO_long (l := s.data.toList) (by omega))
      rw [e1, e2]
      exact refRead_long s big hs w
    · have hd : s.data.toList.head? = some s[0] := by
        rw [List.head?_eq_getElem?, List.getElem?_eq_getElem (by simpa using hz)]; rfl
      by_cases h0 : (s[0].toNat : Int) = 48
      · have h0' : s[0] = 48 := UInt8.toNat_inj.1 (by have : (48 : UInt8).toNat = 48 := rfl; omega)
        by_cases h1 : 1 < (s.size : Int)
        · have e : readO s.data.toList = none := by unfold readO; rw [if_pos (Or.inr ⟨by rw [hd, h0'], by omega⟩)]
          obtain ⟨e1, e2⟩ := readN_none e
          rw [e1, e2]
          exact refRead_nought s hz h0 h1 big w
        · have e : readO s.data.toList = runTo s.data.toList 0 := by
            unfold readO; rw [if_neg (fun c => c.elim (fun c => h (by rw [el]; exact c)) (fun c => by omega))]
          have e1 : readN s.data.toList = (runTo s.data.toList 0).getD 0 := by unfold readN; rw [e]
          have e2 : readB s.data.toList = (runTo s.data.toList 0).isSome := by unfold readB; rw [e]
          rw [e1, e2]
          exact refRead_loop s hz (Or.inl ⟨h0, h1⟩) big w
      · have e : readO s.data.toList = runTo s.data.toList 0 := by
          unfold readO; rw [if_neg (fun c => c.elim (fun c => h (by rw [el]; exact c)) (fun c => h0 (by rw [hd] at c; have := Option.some.inj c.1; rw [this]; rfl)))]
        have e1 : readN s.data.toList = (runTo s.data.toList 0).getD 0 := by unfold readN; rw [e]
        have e2 : readB s.data.toList = (runTo s.data.toList 0).isSome := by unfold readB; rw [e]
        rw [e1, e2]
        exact refRead_loop s hz (Or.inr h0) big w
end Go.Proofs.Ytgafejolijjiiaa
