/- The walk of the law RankFirst, over what the five calls answer. -/
import Derived.Test.YthollkngfibgaaaDoorJ12
import Derived.Deep.Slices
namespace Go.Proofs.YthollkngfibgaaaDoor.rankFirst
open Go.RowKit
open Go.Proofs.YthollkngfibgaaaDoor
set_option linter.unusedVariables false
set_option linter.unusedSimpArgs false
set_option maxHeartbeats 8000000
set_option maxRecDepth 100000
theorem small_len {l : List It} (h : smallB l = true) : l.length ≤ 60 := by
  unfold smallB at h
  rw [Bool.and_eq_true] at h
  exact of_decide_eq_true h.1
theorem its_drop {W : World} {ad : Addr} {n c m : Nat} {s : List It} (h : Its W (some ad) n c s) (hm : m ≤ n) : Its W (some (ad.add (m * 3))) (n - m) (c - m) (s.drop m) := by
  have hl := h.len; have hc := h.cap; have ht := h.top
  refine ⟨by rw [List.length_drop]; omega, by omega, by omega, fun j hj => ⟨_, rfl, ?_⟩, fun x hx => h.fit x (List.mem_of_mem_drop hx)⟩
  rw [List.length_drop] at hj
  obtain ⟨ad', e, a0, a1, a2⟩ := h.at_ (m + j) (by omega)
  obtain rfl := Option.some.inj e
  rw [Go.Deep.add_add, Go.Deep.add_add, Go.Deep.add_add, show m * 3 + j * 3 = (m + j) * 3 by omega, show m * 3 + (j * 3 + 1) = (m + j) * 3 + 1 by omega, show m * 3 + (j * 3 + 2) = (m + j) * 3 + 2 by omega, List.getElem_drop]
  exact ⟨a0, a1, a2⟩
theorem walk (P : Prog10) (AW : ∀ w : World, Calls Tryd.prog 9 #[] w fun e w' => e = .returned (.bool true) ∧ Below w.heap.size w w') {A : Option Addr} {n c : Nat} {l : List It} {w : World} (h : Its w A n c l) (k : Int) (hk : -9223372036854775808 ≤ k ∧ k ≤ 9223372036854775807) :
    Calls Tryd.prog 8 #[.slice A n c, .int .i64 k] w fun e w' => e = .returned (.bool true) ∧ Below w.heap.size w w' := by
  have KF := Lib.hid AW
  have K0 := Lib.hid (refSmall10_any h)
  by_cases hs : smallB l = true
  · by_cases ha : l.all mayB = true
    · have n60 : n ≤ 60 := by rw [← h.len]; exact small_len hs
      rw [hs] at K0
      have K3 : Hid (∀ W : World, Below w.heap.size w W → _) := fun W hb => refAll_any (h.next hb) (by omega)
      have K1 : Hid (∀ W : World, Below w.heap.size w W → _) := fun W hb => P.sort (h.next hb) (by omega) ha
      have K2 : Hid (∀ W : World, Below w.heap.size w W → _) := fun W hb => P.least (h.next hb) (by omega) ha k hk
      have PC := Lib.hid P.cmp
      rw [ha] at K3
      have ML := Lib.hid (May.of ha)
      have HL := Lib.hid h.len
      clear h hs ha P
      go_enter Tryd.func8, Tryd.ntmps8
      go_wp2_with fail
      refine K0.out.mono ?_
      rintro e w1 ⟨rfl, B1⟩
      have B1 := Lib.hid B1
      clear K0
      go_wp2_with fail
      refine (K3.out _ B1.out).mono ?_
      rintro e w2 ⟨rfl, B2⟩
      have B2 := Lib.hid (below_step B1.out B2)
      clear K3
      go_wp2_with fail
      refine (K1.out _ B2.out).mono ?_
      rintro e w3 ⟨s, st, A2, c2, rfl, I2, B3⟩
      have ST := Lib.hid st
      have B3 := Lib.hid (below_step B2.out B3)
      have s1 : s.length = n := st.len.trans HL.out
      rw [s1] at I2 ⊢
      have SN := Lib.hid s1
      have I2 := Lib.hid I2
      clear K1 st s1
      go_wp2_with fail
      refine (K2.out _ B3.out).mono ?_
      rintro e w4 ⟨s', st', A3, c3, rfl, I3, B4⟩
      obtain rfl := st'.one ML.out ST.out
      have I2 := Lib.hid (I2.out.next B4)
      have B4 := Lib.hid (below_step B3.out B4)
      obtain ⟨m, hm⟩ : ∃ m, m = (s'.take k.toNat).length := ⟨_, rfl⟩
      have hm2 : m = min k.toNat n := by rw [hm, List.length_take, SN.out]
      have mn : m ≤ n := by omega
      have mI : ¬ (n : Int) < m := by omega
      have mI2 : ¬ n < m := by omega
      have mI3 : decide (n < m) = false := decide_eq_false mI2
      have nn : ((n : Int) != (n : Int)) = false := by simp
      rw [← hm] at I3 ⊢
      have I3 := Lib.hid I3
      have TK : Hid (s'.take m = s'.take k.toNat) := by
        unfold Hid
        rw [hm2, ← SN.out]
        by_cases q : k.toNat ≤ s'.length
        · rw [Nat.min_eq_left q]
        · rw [Nat.min_eq_right (by omega), List.take_length, List.take_of_length_le (by omega)]
      have FL : Hid (∀ x ∈ s'.take k.toNat, ∀ y ∈ s'.drop m, cmpI x y ≤ 0) := by
        rw [← TK.out]
        have q := ST.out.sorted
        rw [← List.take_append_drop m s'] at q
        exact q.cross
      clear K2 st' hm hm2
      obtain ⟨s, rfl⟩ : ∃ t, t = s' := ⟨_, rfl⟩
      have J := I2.out.front m mn
      rw [TK.out] at J
      have K5 := Lib.hid (fun W (hb : Below w4.heap.size w4 W) => refSame10_yes (I3.out.next hb) (J.next hb) (by omega))
      have mc : (m : Int) ≤ c2 := by have := I2.out.cap; omega
      clear J TK
      by_cases m0 : m = 0
      · subst m0
        have BI := Lib.hid (Below.refl w4.heap.size w4)
        go_wp2_with fail
        go_loopg [39] 0 (fun q s39 wr => s39 = .int .i64 0 ∧ wr = w4)
        case atStart => exact ⟨rfl, rfl⟩
        case round =>
          obtain ⟨rfl, hw⟩ := hrel
          have hw := hw.symm
          subst hw
          go_wp2_with fail
          refine (K5.out _ BI.out).mono ?_
          rintro e w6 ⟨rfl, B6⟩
          have BE := Lib.hid (below_step (B4.out.trans (BI.out.mono B4.out.size)) B6)
          clear K5 B6
          go_wp2_with fail
          refine (KF.out _).mono ?_
          rintro e w8 ⟨rfl, B8⟩
          go_wp2_with fail
          go_ret
          exact ⟨rfl, below_step BE.out B8⟩
      · obtain ⟨ad, -, rfl, -⟩ := I2.out.read 0 (by omega)
        by_cases hc : c2 = m
        · have ip : n - m = 0 := by have := I2.out.cap; omega
          have I4 : Hid (Its w4 (some ad) 0 0 (s.drop m)) := by
            unfold Hid
            rw [List.drop_of_length_le (by rw [SN.out]; omega)]
            exact Its.zero _ _ _ (by decide)
          have nm : m = n := by omega
          have hc := hc.symm
          subst hc nm
          clear m0 ip
          go_wp2_with fail
          go_loopg [39] m (fun q s39 wr => ∃ i : Nat, s39 = .int .i64 (i : Int) ∧ i + q = m ∧ Hid (Below w4.heap.size w4 wr))
          case atStart => exact ⟨0, rfl, by omega, Below.refl _ _⟩
          case round =>
            obtain ⟨i, rfl, hq, BI⟩ := hrel
            have HQ := Lib.hid hq
            obtain ⟨X, rfl⟩ : ∃ X, X = gk := ⟨_, rfl⟩
            by_cases lt : i < m
            · have i1 : (i : Int) < m := by omega
              have i0 : (0 : Int) ≤ i := by omega
              obtain ⟨at3, hj, rfl, x0, x1, x2, fx⟩ := (I3.out.next BI.out).read i lt
              obtain ⟨x, hx⟩ : ∃ x, x = (s.take k.toNat)[i] := ⟨_, rfl⟩
              rw [← hx] at x0 x1 x2 fx
              have XL : Hid (∀ y ∈ s.drop m, cmpI x y ≤ 0) := fun y hy => FL.out x (by rw [hx]; exact List.getElem_mem hj) y hy
              have FX := Lib.hid fx
              have M : One wr wr.heap.size #[.string x.k, .int .u64 (x.u : Int), .int .u64 (x.w : Int)] (wr.alloc (.cells #[.string x.k, .int .u64 (x.u : Int), .int .u64 (x.w : Int)] 24)) := One.new _ _ _
              have LT := Lib.hid lt
              clear hx fx hj lt hq
              go_upto_region 9 with fail
              clear x0 x1 x2
              generalize hV : wr.alloc (.cells #[.string x.k, .int .u64 (x.u : Int), .int .u64 (x.w : Int)] 24) = V at *
              try rw [hV]
              clear hV
              obtain ⟨gx, hgx⟩ : ∃ gx, wr.heap.size = gx := ⟨_, rfl⟩
              rw [hgx] at M
              try rw [hgx]
              have BV := Lib.hid (below_step BI.out M.bl)
              have MB := Lib.hid M.bg
              clear M hgx
              go_wp2_with fail
              go_loopg [48] 0 (fun q s48 wt => ∃ j : Nat, s48 = .int .i64 (j : Int) ∧ j + q = 0 ∧ Hid (Below V.heap.size V wt))
              case atStart => exact ⟨0, rfl, by omega, Below.refl _ _⟩
              case round =>
                obtain ⟨j, rfl, hq, BT⟩ := hrel
                have HQ2 := Lib.hid hq
                by_cases lt : j < 0
                · exact absurd lt (Nat.not_lt_zero _)
                · obtain rfl : j = 0 := by omega
                  have j1 : ¬ ((0 : Nat) : Int) < ((0 : Nat) : Int) := by omega
                  have BN := Lib.hid (BV.out.trans (BT.out.mono BV.out.size))
                  clear lt hq
                  go_wp2_with fail
                  go_roundg (X - 1)
                  case measure => have := HQ.out; have := LT.out; omega
                  case rel =>
                    go_light
                    exact ⟨i + 1, by go_num, by have := HQ.out; have := LT.out; omega, BN⟩
            · obtain rfl : i = m := by omega
              have i1 : ¬ (i : Int) < i := by omega
              clear lt hq
              go_wp2_with fail
              refine (K5.out _ BI.out).mono ?_
              rintro e w6 ⟨rfl, B6⟩
              have BE := Lib.hid (below_step (B4.out.trans (BI.out.mono B4.out.size)) B6)
              clear K5 B6
              go_wp2_with fail
              refine (KF.out _).mono ?_
              rintro e w8 ⟨rfl, B8⟩
              go_wp2_with fail
              go_ret
              exact ⟨rfl, below_step BE.out B8⟩
        · have I4 : Hid (Its w4 (some (ad.add (m * 3))) (n - m) (c2 - m) (s.drop m)) := its_drop I2.out mn
          have hcI : ¬ (c2 : Int) = (m : Int) := by omega
          have hcL : (m : Int) < c2 := by omega
          have hcN : m < c2 := by omega
          clear m0 hc
          go_wp2_with fail
          go_loopg [39] m (fun q s39 wr => ∃ i : Nat, s39 = .int .i64 (i : Int) ∧ i + q = m ∧ Hid (Below w4.heap.size w4 wr))
          case atStart => exact ⟨0, rfl, by omega, Below.refl _ _⟩
          case round =>
            obtain ⟨i, rfl, hq, BI⟩ := hrel
            have HQ := Lib.hid hq
            obtain ⟨X, rfl⟩ : ∃ X, X = gk := ⟨_, rfl⟩
            by_cases lt : i < m
            · have i1 : (i : Int) < m := by omega
              have i0 : (0 : Int) ≤ i := by omega
              obtain ⟨at3, hj, rfl, x0, x1, x2, fx⟩ := (I3.out.next BI.out).read i lt
              obtain ⟨x, hx⟩ : ∃ x, x = (s.take k.toNat)[i] := ⟨_, rfl⟩
              rw [← hx] at x0 x1 x2 fx
              have XL : Hid (∀ y ∈ s.drop m, cmpI x y ≤ 0) := fun y hy => FL.out x (by rw [hx]; exact List.getElem_mem hj) y hy
              have FX := Lib.hid fx
              have M : One wr wr.heap.size #[.string x.k, .int .u64 (x.u : Int), .int .u64 (x.w : Int)] (wr.alloc (.cells #[.string x.k, .int .u64 (x.u : Int), .int .u64 (x.w : Int)] 24)) := One.new _ _ _
              have LT := Lib.hid lt
              clear hx fx hj lt hq
              go_upto_region 9 with fail
              clear x0 x1 x2
              generalize hV : wr.alloc (.cells #[.string x.k, .int .u64 (x.u : Int), .int .u64 (x.w : Int)] 24) = V at *
              try rw [hV]
              clear hV
              obtain ⟨gx, hgx⟩ : ∃ gx, wr.heap.size = gx := ⟨_, rfl⟩
              rw [hgx] at M
              try rw [hgx]
              have BV := Lib.hid (below_step BI.out M.bl)
              have MB := Lib.hid M.bg
              clear M hgx
              go_wp2_with fail
              go_loopg [48] (n - m) (fun q s48 wt => ∃ j : Nat, s48 = .int .i64 (j : Int) ∧ j + q = (n - m) ∧ Hid (Below V.heap.size V wt))
              case atStart => exact ⟨0, rfl, by omega, Below.refl _ _⟩
              case round =>
                obtain ⟨j, rfl, hq, BT⟩ := hrel
                have HQ2 := Lib.hid hq
                by_cases lt : j < (n - m)
                · have j1 : (j : Int) < (((n - m) : Nat) : Int) := by omega
                  have j0 : (0 : Int) ≤ j := by omega
                  have bt := Lib.hid (BV.out.trans (BT.out.mono BV.out.size))
                  obtain ⟨at4, hj, e4, y0, y1, y2, fy⟩ := (I4.out.next bt.out).read j lt
                  obtain rfl := Option.some.inj e4
                  obtain ⟨y, hy⟩ : ∃ y, y = (s.drop m)[j] := ⟨_, rfl⟩
                  rw [← hy] at y0 y1 y2 fy
                  have hle : cmpI x y ≤ 0 := XL.out y (by rw [hy]; exact List.getElem_mem hj)
                  have K := Lib.hid (fun W => PC.out x y FX.out fy W)
                  obtain ⟨cc, hcc⟩ : ∃ cc, cc = cmpI x y := ⟨_, rfl⟩
                  rw [← hcc] at K hle
                  have c0 : ¬ (0 : Int) < cc := by omega
                  have c1 : decide (cc > (0 : Int)) = false := decide_eq_false c0
                  have D := One.new wr #[.string y.k, .int .u64 (y.u : Int), .int .u64 (y.w : Int)] 24
                  have BX : Box (wr.alloc (.cells #[.string y.k, .int .u64 (y.u : Int), .int .u64 (y.w : Int)] 24)) gx #[.string x.k, .int .u64 (x.u : Int), .int .u64 (x.w : Int)] := (MB.out.next BT.out).alloc _
                  have LT2 := Lib.hid lt
                  clear hy hcc hle fy hj lt hq
                  go_upto_region 12 with fail
                  clear y0 y1 y2
                  generalize hV2 : wr.alloc (.cells #[.string y.k, .int .u64 (y.u : Int), .int .u64 (y.w : Int)] 24) = V2 at *
                  try rw [hV2]
                  clear hV2
                  obtain ⟨x0, x1, x2⟩ := BX.three
                  obtain ⟨gy, hgy⟩ : ∃ gy, wr.heap.size = gy := ⟨_, rfl⟩
                  rw [hgy] at D
                  try rw [hgy]
                  obtain ⟨y0, y1, y2⟩ := D.bg.three
                  have BV2 := Lib.hid (below_step BT.out D.bl)
                  clear D BX hgy
                  go_wp2_with fail
                  refine (K.out _).mono ?_
                  rintro e z ⟨rfl, BZ⟩
                  have BN := Lib.hid (below_step BV2.out BZ)
                  clear x0 x1 x2 y0 y1 y2 BZ K
                  go_wp2_with fail
                  go_roundg (gk - 1)
                  case measure => have := HQ2.out; have := LT2.out; omega
                  case rel =>
                    go_light
                    exact ⟨j + 1, by go_num, by have := HQ2.out; have := LT2.out; omega, BN⟩
                · obtain rfl : j = (n - m) := by omega
                  have j1 : ¬ (((n - m) : Nat) : Int) < (((n - m) : Nat) : Int) := by omega
                  have BN := Lib.hid (BV.out.trans (BT.out.mono BV.out.size))
                  clear lt hq
                  go_wp2_with fail
                  go_roundg (X - 1)
                  case measure => have := HQ.out; have := LT.out; omega
                  case rel =>
                    go_light
                    exact ⟨i + 1, by go_num, by have := HQ.out; have := LT.out; omega, BN⟩
            · obtain rfl : i = m := by omega
              have i1 : ¬ (i : Int) < i := by omega
              clear lt hq
              go_wp2_with fail
              refine (K5.out _ BI.out).mono ?_
              rintro e w6 ⟨rfl, B6⟩
              have BE := Lib.hid (below_step (B4.out.trans (BI.out.mono B4.out.size)) B6)
              clear K5 B6
              go_wp2_with fail
              refine (KF.out _).mono ?_
              rintro e w8 ⟨rfl, B8⟩
              go_wp2_with fail
              go_ret
              exact ⟨rfl, below_step BE.out B8⟩
    · have ha2 : l.all mayB = false := by simpa using ha
      have n60 : n ≤ 60 := by rw [← h.len]; exact small_len hs
      rw [hs] at K0
      have K3 : Hid (∀ W : World, Below w.heap.size w W → _) := fun W hb => refAll_any (h.next hb) (by omega)
      rw [ha2] at K3
      clear h hs ha ha2 P
      go_enter Tryd.func8, Tryd.ntmps8
      go_wp2_with fail
      refine K0.out.mono ?_
      rintro e w1 ⟨rfl, B1⟩
      have B1 := Lib.hid B1
      clear K0
      go_wp2_with fail
      refine (K3.out _ B1.out).mono ?_
      rintro e w2 ⟨rfl, B2⟩
      have B2 := Lib.hid (below_step B1.out B2)
      clear K3
      go_wp2_with fail
      refine (KF.out _).mono ?_
      rintro e w8 ⟨rfl, B8⟩
      go_wp2_with fail
      go_ret
      exact ⟨rfl, below_step B2.out B8⟩
  · have hs2 : smallB l = false := by simpa using hs
    rw [hs2] at K0
    clear h hs hs2 P
    go_enter Tryd.func8, Tryd.ntmps8
    go_wp2_with fail
    refine K0.out.mono ?_
    rintro e w1 ⟨rfl, B1⟩
    have B1 := Lib.hid B1
    clear K0
    go_wp2_with fail
    refine (KF.out _).mono ?_
    rintro e w8 ⟨rfl, B8⟩
    go_wp2_with fail
    go_ret
    exact ⟨rfl, below_step B1.out B8⟩
end Go.Proofs.YthollkngfibgaaaDoor.rankFirst
