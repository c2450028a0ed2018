/- The walk of the law RankSorts, over what the five calls answer. -/
import Derived.Test.YthollkngfibgaaaDoorJ12
namespace Go.Proofs.YthollkngfibgaaaDoor.rankSorts
open Go.RowKit
open Go.Proofs.YthollkngfibgaaaDoor
set_option linter.unusedVariables false
set_option linter.unusedSimpArgs false
set_option maxHeartbeats 8000000
set_option maxRecDepth 100000
theorem small_len {l : List It} (h : smallB l = true) : l.length ≤ 60 := by
  unfold smallB at h
  rw [Bool.and_eq_true] at h
  exact of_decide_eq_true h.1
theorem walk (P : Prog10) (AW : ∀ w : World, Calls Tryd.prog 9 #[] w fun e w' => e = .returned (.bool true) ∧ Below w.heap.size w w') {A : Option Addr} {n c : Nat} {l : List It} {w : World} (h : Its w A n c l) (k : Int) (hk : -9223372036854775808 ≤ k ∧ k ≤ 9223372036854775807) :
    Calls Tryd.prog 4 #[.slice A n c, .int .i64 k] w fun e w' => e = .returned (.bool true) ∧ Below w.heap.size w w' := by
  have KF := Lib.hid AW
  have K0 := Lib.hid (refSmall10_any h)
  by_cases hs : smallB l = true
  · have n60 : n ≤ 60 := by rw [← h.len]; exact small_len hs
    rw [hs] at K0
    by_cases ha : l.all mayB = true
    · have K1 : Hid (∀ W : World, Below w.heap.size w W → _) := fun W hb => P.sort (h.next hb) (by omega) ha
      have K2 : Hid (∀ W : World, Below w.heap.size w W → _) := fun W hb => P.least (h.next hb) (by omega) ha k hk
      have K3 : Hid (∀ W : World, Below w.heap.size w W → _) := fun W hb => refAll_any (h.next hb) (by omega)
      rw [ha] at K3
      have K4 : Hid (∀ W : World, Below w.heap.size w W → _) := fun W hb => refSort10_any (h.next hb) (May.of ha) (by omega)
      have ML := Lib.hid (May.of ha)
      have HL := Lib.hid h.len
      clear h hs ha P
      go_enter Tryd.func4, Tryd.ntmps4
      go_wp2_with fail
      refine K0.out.mono ?_
      rintro e w1 ⟨rfl, B1⟩
      have B1 := Lib.hid B1
      go_wp2_with fail
      refine (K1.out _ B1.out).mono ?_
      rintro e w2 ⟨s, st, A2, c2, rfl, I2, B2⟩
      have ST := Lib.hid st
      have B2 := Lib.hid (below_step B1.out B2)
      have s1 : s.length = n := st.len.trans HL.out
      rw [s1] at I2 ⊢
      have SN := Lib.hid s1
      have I2 := Lib.hid I2
      clear K0 K1 st s1
      go_wp2_with fail
      refine (K2.out _ B2.out).mono ?_
      rintro e w3 ⟨s', st', A3, c3, rfl, I3, B3⟩
      obtain rfl := st'.one ML.out ST.out
      obtain ⟨m, hm⟩ : ∃ m, m = (s'.take k.toNat).length := ⟨_, rfl⟩
      have hm2 : m = min k.toNat n := by rw [hm, List.length_take, SN.out]
      have e1 : min (max k 0) (n : Int) = (m : Int) := by omega
      have m0 : (0 : Int) ≤ m := by omega
      have mn : m ≤ n := by omega
      rw [← hm] at I3 ⊢
      have TK : Hid (s'.take m = s'.take k.toNat) := by
        unfold Hid
        rw [hm2, ← SN.out]
        by_cases q : k.toNat ≤ s'.length
        · rw [Nat.min_eq_left q]
        · rw [Nat.min_eq_right (by omega), List.take_length, List.take_of_length_le (by omega)]
      clear hm hm2
      have I2 := Lib.hid (I2.out.next B3)
      have I3 := Lib.hid I3
      have B3 := Lib.hid (below_step B2.out B3)
      clear K2 st'
      go_wp2_with fail
      refine (K3.out _ B3.out).mono ?_
      rintro e w4 ⟨rfl, B4⟩
      have I2 := Lib.hid (I2.out.next B4)
      have I3 := Lib.hid (I3.out.next B4)
      have B4 := Lib.hid (below_step B3.out B4)
      clear K3
      go_wp2_with fail
      refine (K4.out _ B4.out).mono ?_
      rintro e w5 ⟨v, s', rfl, st', R, B5⟩
      obtain rfl := st'.one ML.out ST.out
      have I2 := Lib.hid (I2.out.next B5)
      have I3 := Lib.hid (I3.out.next B5)
      have B5 := Lib.hid (below_step B4.out B5)
      clear K4 st'
      rcases R.form with ⟨rfl, hl⟩ | ⟨g, cap, rfl, -, -, hc, -, I4⟩
      · have z : n = 0 := by rw [← SN.out, hl]; rfl
        have m00 : m = 0 := by omega
        subst z m00
        replace e1 : min (max k 0) (0 : Int) = 0 := by omega
        have K5 := Lib.hid (fun W (hb : Below w5.heap.size w5 W) => refSame10_yes (I2.out.next hb) ((show Its w5 none 0 0 s' from by rw [hl]; exact Its.none_ _ _ _ rfl (by decide)).next hb) (by decide))
        have K6 := Lib.hid (fun W (hb : Below w5.heap.size w5 W) => refSame10_yes (I3.out.next hb) ((show Its w5 none 0 0 (s'.take k.toNat) from by rw [hl, List.take_nil]; exact Its.none_ _ _ _ rfl (by decide)).next hb) (by decide))
        clear hl R I2 I3 TK SN
        go_wp2_with fail
        refine (K5.out _ (Below.refl _ _)).mono ?_
        rintro e w6 ⟨rfl, B6⟩
        have B6h := Lib.hid B6
        go_wp2_with fail
        refine (K6.out _ B6h.out).mono ?_
        rintro e w7 ⟨rfl, B7⟩
        have B7 := Lib.hid (below_step (below_step B5.out B6h.out) B7)
        clear K5 K6 B6
        go_wp2_with fail
        refine (KF.out _).mono ?_
        rintro e w8 ⟨rfl, B8⟩
        go_wp2_with fail
        go_ret
        exact ⟨rfl, below_step B7.out B8⟩
      · rw [SN.out] at hc I4 ⊢
        have mc : (m : Int) ≤ cap := by omega
        have J := I4.front m mn
        rw [TK.out] at J
        have K5 := Lib.hid (fun W (hb : Below w5.heap.size w5 W) => refSame10_yes (I2.out.next hb) (I4.next hb) (by omega))
        have K6 := Lib.hid (fun W (hb : Below w5.heap.size w5 W) => refSame10_yes (I3.out.next hb) (J.next hb) (by omega))
        clear R I2 I3 I4 J TK SN hc
        go_wp2_with fail
        refine (K5.out _ (Below.refl _ _)).mono ?_
        rintro e w6 ⟨rfl, B6⟩
        have B6h := Lib.hid B6
        go_wp2_with fail
        refine (K6.out _ B6h.out).mono ?_
        rintro e w7 ⟨rfl, B7⟩
        have B7 := Lib.hid (below_step (below_step B5.out B6h.out) B7)
        clear K5 K6 B6
        go_wp2_with fail
        refine (KF.out _).mono ?_
        rintro e w8 ⟨rfl, B8⟩
        go_wp2_with fail
        go_ret
        exact ⟨rfl, below_step B7.out B8⟩
    · have ha2 : l.all mayB = false := by simpa using ha
      have K1 : Hid (∀ W : World, Below w.heap.size w W → _) := fun W hb => P.sortNo (h.next hb) (by omega) ha2
      have K2 : Hid (∀ W : World, Below w.heap.size w W → _) := fun W hb => P.leastNo (h.next hb) (by omega) ha2 k hk
      have K3 : Hid (∀ W : World, Below w.heap.size w W → _) := fun W hb => refAll_any (h.next hb) (by omega)
      rw [ha2] at K3
      clear h hs ha ha2 P
      go_enter Tryd.func4, Tryd.ntmps4
      go_wp2_with fail
      refine K0.out.mono ?_
      rintro e w1 ⟨rfl, B1⟩
      have B1 := Lib.hid B1
      go_wp2_with fail
      refine (K1.out _ B1.out).mono ?_
      rintro e w2 ⟨A2, c2, rfl, -, B2⟩
      have B2 := Lib.hid (below_step B1.out B2)
      rw [show ([] : List It).length = 0 from rfl]
      clear K0 K1
      go_wp2_with fail
      refine (K2.out _ B2.out).mono ?_
      rintro e w3 ⟨A3, c3, rfl, -, B3⟩
      have B3 := Lib.hid (below_step B2.out B3)
      rw [show ([] : List It).length = 0 from rfl]
      clear K2
      go_wp2_with fail
      refine (K3.out _ B3.out).mono ?_
      rintro e w4 ⟨rfl, B4⟩
      have B4 := Lib.hid (below_step B3.out B4)
      clear K3
      go_wp2_with fail
      refine (KF.out _).mono ?_
      rintro e w8 ⟨rfl, B8⟩
      go_wp2_with fail
      go_ret
      exact ⟨rfl, below_step B4.out B8⟩
  · have hs2 : smallB l = false := by simpa using hs
    rw [hs2] at K0
    clear h hs hs2 P
    go_enter Tryd.func4, Tryd.ntmps4
    go_wp2_with fail
    refine K0.out.mono ?_
    rintro e w1 ⟨rfl, B1⟩
    have B1 := Lib.hid B1
    clear K0
    go_wp2_with fail
    refine (KF.out _).mono ?_
    rintro e w8 ⟨rfl, B8⟩
    go_wp2_with fail
    go_ret
    exact ⟨rfl, below_step B1.out B8⟩
end Go.Proofs.YthollkngfibgaaaDoor.rankSorts
