/- The walk of the law HeapTells, over what the six calls answer: what is too large, and what is no heap. -/
import Derived.Test.YtnkhgkpijfohkaaIC
namespace Go.Proofs.Ytnkhgkpijfohkaa.heapTells
open Go.RowKit
open Go.Proofs.Ytnkhgkpijfohkaa
set_option linter.unusedVariables false
set_option linter.unusedSimpArgs false
set_option maxHeartbeats 8000000
set_option maxRecDepth 100000
theorem walk_long (P : Prog11) (KCH : ∀ (a : It) (w : World), Calls Try.prog 17 #[itv a] w fun e w' => e = .returned (.int .i64 (chk a)) ∧ Below w.heap.size w w') (AW : ∀ w : World, Calls Try.prog 9 #[] w fun e w' => e = .returned (.bool true) ∧ Below w.heap.size w w') {A : Option Addr} {c : Nat} {l : List It} {w : World} (h : Lst w A c l) (x : It) (fx : x.Fit) (i : Int) (hi : -9223372036854775808 ≤ i ∧ i ≤ 9223372036854775807) (key : ByteArray) (hs : smallB l = false) :
    Calls Try.prog 3 #[.slice A l.length c, itv x, .int .i64 i, .string key] w fun e w' => e = .returned (.bool true) ∧ Below w.heap.size w w' := by
  have KF := Lib.hid AW
  have K0 := Lib.hid (fun W (hb : Below w.heap.size w W) => refSmall10_any (h.1.next hb))
  have I := Lib.hid h.1
  have HC := Lib.hid h.2
  have PP := Lib.hid P
  have KK := Lib.hid (fun W => KCH x W)
  have FX := Lib.hid fx
  have HI := Lib.hid hi
  obtain ⟨xk, xu, xw⟩ := x
  have M := One.new w #[.string xk, .int .u64 (xu : Int), .int .u64 (xw : Int)] 25
  obtain ⟨g, hg⟩ : ∃ g, w.heap.size = g := ⟨_, rfl⟩
  rw [hg] at M
  obtain ⟨n, hn⟩ : ∃ n, n = l.length := ⟨_, rfl⟩
  have HN := Lib.hid hn
  rw [← hn] at K0 I ⊢
  clear h P KCH AW fx hi
  rw [hs] at K0
  clear hs hn
  go_enter Try.func3, Try.ntmps3
  go_wp2_with fail
  clear hg
  generalize w.alloc (.cells #[.string xk, .int .u64 (xu : Int), .int .u64 (xw : Int)] 25) = W0 at *
  refine (K0.out _ M.bl).mono ?_
  rintro e w1 ⟨rfl, B1⟩
  replace M := M.next B1
  clear B1
  go_wp2_with fail
  refine (KF.out _).mono ?_
  rintro e W9 ⟨rfl, B9⟩
  have BE := Lib.hid (below_step M.bl B9)
  clear B9
  go_wp2_with fail
  go_ret
  exact ⟨rfl, BE.out⟩
theorem walk_key (P : Prog11) (KCH : ∀ (a : It) (w : World), Calls Try.prog 17 #[itv a] w fun e w' => e = .returned (.int .i64 (chk a)) ∧ Below w.heap.size w w') (AW : ∀ w : World, Calls Try.prog 9 #[] w fun e w' => e = .returned (.bool true) ∧ Below w.heap.size w w') {A : Option Addr} {c : Nat} {l : List It} {w : World} (h : Lst w A c l) (x : It) (fx : x.Fit) (i : Int) (hi : -9223372036854775808 ≤ i ∧ i ≤ 9223372036854775807) (key : ByteArray) (hs : smallB l = true) (hk : ¬ x.k.size ≤ 100) :
    Calls Try.prog 3 #[.slice A l.length c, itv x, .int .i64 i, .string key] w fun e w' => e = .returned (.bool true) ∧ Below w.heap.size w w' := by
  have KF := Lib.hid AW
  have K0 := Lib.hid (fun W (hb : Below w.heap.size w W) => refSmall10_any (h.1.next hb))
  have I := Lib.hid h.1
  have HC := Lib.hid h.2
  have PP := Lib.hid P
  have KK := Lib.hid (fun W => KCH x W)
  have FX := Lib.hid fx
  have HI := Lib.hid hi
  obtain ⟨xk, xu, xw⟩ := x
  have M := One.new w #[.string xk, .int .u64 (xu : Int), .int .u64 (xw : Int)] 25
  obtain ⟨g, hg⟩ : ∃ g, w.heap.size = g := ⟨_, rfl⟩
  rw [hg] at M
  obtain ⟨n, hn⟩ : ∃ n, n = l.length := ⟨_, rfl⟩
  have HN := Lib.hid hn
  rw [← hn] at K0 I ⊢
  clear h P KCH AW fx hi
  have n60 : l.length ≤ 60 := by
    unfold smallB at hs
    rw [Bool.and_eq_true] at hs
    exact of_decide_eq_true hs.1
  have N60 : Hid (n ≤ 60) := by unfold Hid; rw [hn]; exact n60
  rw [hs] at K0
  clear n60 hs hn
  have hk' : ¬ xk.size ≤ 100 := hk
  have k1 : (100 : Int) < xk.size := by omega
  clear hk hk'
  go_enter Try.func3, Try.ntmps3
  go_wp2_with fail
  clear hg
  generalize w.alloc (.cells #[.string xk, .int .u64 (xu : Int), .int .u64 (xw : Int)] 25) = W0 at *
  refine (K0.out _ M.bl).mono ?_
  rintro e w1 ⟨rfl, B1⟩
  replace M := M.next B1
  clear B1
  obtain ⟨x0, x1, x2⟩ := M.bg.three
  go_wp2_with fail
  refine (KF.out _).mono ?_
  rintro e W9 ⟨rfl, B9⟩
  have BE := Lib.hid (below_step M.bl B9)
  clear B9
  go_wp2_with fail
  go_ret
  exact ⟨rfl, BE.out⟩
theorem walk_find (P : Prog11) (KCH : ∀ (a : It) (w : World), Calls Try.prog 17 #[itv a] w fun e w' => e = .returned (.int .i64 (chk a)) ∧ Below w.heap.size w w') (AW : ∀ w : World, Calls Try.prog 9 #[] w fun e w' => e = .returned (.bool true) ∧ Below w.heap.size w w') {A : Option Addr} {c : Nat} {l : List It} {w : World} (h : Lst w A c l) (x : It) (fx : x.Fit) (i : Int) (hi : -9223372036854775808 ≤ i ∧ i ≤ 9223372036854775807) (key : ByteArray) (hs : smallB l = true) (hk1 : x.k.size ≤ 100) (hk2 : ¬ key.size ≤ 100) :
    Calls Try.prog 3 #[.slice A l.length c, itv x, .int .i64 i, .string key] w fun e w' => e = .returned (.bool true) ∧ Below w.heap.size w w' := by
  have KF := Lib.hid AW
  have K0 := Lib.hid (fun W (hb : Below w.heap.size w W) => refSmall10_any (h.1.next hb))
  have I := Lib.hid h.1
  have HC := Lib.hid h.2
  have PP := Lib.hid P
  have KK := Lib.hid (fun W => KCH x W)
  have FX := Lib.hid fx
  have HI := Lib.hid hi
  obtain ⟨xk, xu, xw⟩ := x
  have M := One.new w #[.string xk, .int .u64 (xu : Int), .int .u64 (xw : Int)] 25
  obtain ⟨g, hg⟩ : ∃ g, w.heap.size = g := ⟨_, rfl⟩
  rw [hg] at M
  obtain ⟨n, hn⟩ : ∃ n, n = l.length := ⟨_, rfl⟩
  have HN := Lib.hid hn
  rw [← hn] at K0 I ⊢
  clear h P KCH AW fx hi
  have n60 : l.length ≤ 60 := by
    unfold smallB at hs
    rw [Bool.and_eq_true] at hs
    exact of_decide_eq_true hs.1
  have N60 : Hid (n ≤ 60) := by unfold Hid; rw [hn]; exact n60
  rw [hs] at K0
  clear n60 hs hn
  replace hk1 : xk.size ≤ 100 := hk1
  have k1 : ¬ (100 : Int) < xk.size := by omega
  have k2 : (100 : Int) < key.size := by omega
  go_enter Try.func3, Try.ntmps3
  go_wp2_with fail
  clear hg
  generalize w.alloc (.cells #[.string xk, .int .u64 (xu : Int), .int .u64 (xw : Int)] 25) = W0 at *
  refine (K0.out _ M.bl).mono ?_
  rintro e w1 ⟨rfl, B1⟩
  replace M := M.next B1
  clear B1
  obtain ⟨x0, x1, x2⟩ := M.bg.three
  go_wp2_with fail
  refine (KF.out _).mono ?_
  rintro e W9 ⟨rfl, B9⟩
  have BE := Lib.hid (below_step M.bl B9)
  clear B9
  go_wp2_with fail
  go_ret
  exact ⟨rfl, BE.out⟩
theorem walk_wrong (P : Prog11) (KCH : ∀ (a : It) (w : World), Calls Try.prog 17 #[itv a] w fun e w' => e = .returned (.int .i64 (chk a)) ∧ Below w.heap.size w w') (AW : ∀ w : World, Calls Try.prog 9 #[] w fun e w' => e = .returned (.bool true) ∧ Below w.heap.size w w') {A : Option Addr} {c : Nat} {l : List It} {w : World} (h : Lst w A c l) (x : It) (fx : x.Fit) (i : Int) (hi : -9223372036854775808 ≤ i ∧ i ≤ 9223372036854775807) (key : ByteArray) (hs : smallB l = true) (hk1 : x.k.size ≤ 100) (hk2 : key.size ≤ 100) (hr : rightB l = false) :
    Calls Try.prog 3 #[.slice A l.length c, itv x, .int .i64 i, .string key] w fun e w' => e = .returned (.bool true) ∧ Below w.heap.size w w' := by
  have KF := Lib.hid AW
  have K0 := Lib.hid (fun W (hb : Below w.heap.size w W) => refSmall10_any (h.1.next hb))
  have I := Lib.hid h.1
  have HC := Lib.hid h.2
  have PP := Lib.hid P
  have KK := Lib.hid (fun W => KCH x W)
  have FX := Lib.hid fx
  have HI := Lib.hid hi
  obtain ⟨xk, xu, xw⟩ := x
  have M := One.new w #[.string xk, .int .u64 (xu : Int), .int .u64 (xw : Int)] 25
  obtain ⟨g, hg⟩ : ∃ g, w.heap.size = g := ⟨_, rfl⟩
  rw [hg] at M
  obtain ⟨n, hn⟩ : ∃ n, n = l.length := ⟨_, rfl⟩
  have HN := Lib.hid hn
  rw [← hn] at K0 I ⊢
  clear h P KCH AW fx hi
  have n60 : l.length ≤ 60 := by
    unfold smallB at hs
    rw [Bool.and_eq_true] at hs
    exact of_decide_eq_true hs.1
  have N60 : Hid (n ≤ 60) := by unfold Hid; rw [hn]; exact n60
  rw [hs] at K0
  clear n60 hs hn
  replace hk1 : xk.size ≤ 100 := hk1
  have k1 : ¬ (100 : Int) < xk.size := by omega
  have k2 : ¬ (100 : Int) < key.size := by omega
  have KPU := Lib.hid (fun (W : World) (hb : Below w.heap.size w W) => PP.out.pushN (I.out.next hb) HC.out (by have := N60.out; omega) ⟨xk, xu, xw⟩ FX.out)
  have KPO := Lib.hid (fun (W : World) (hb : Below w.heap.size w W) => PP.out.popN (I.out.next hb) HC.out (by have := N60.out; omega))
  have KPT := Lib.hid (fun (W : World) (hb : Below w.heap.size w W) => PP.out.putN (I.out.next hb) HC.out (by have := N60.out; omega) i HI.out ⟨xk, xu, xw⟩ FX.out)
  have KFI := Lib.hid (fun (W : World) (hb : Below w.heap.size w W) => PP.out.findN (I.out.next hb) HC.out (by have := N60.out; omega) key)
  have KHR := Lib.hid (fun (W : World) (h : Its W A n c l) => PP.out.rightN h HC.out (by have := N60.out; omega))
  have KRR := Lib.hid (fun (W : World) (h : Its W A n c l) => right11_any h (by have := N60.out; omega))
  rw [hr] at KRR
  go_enter Try.func3, Try.ntmps3
  go_wp2_with fail
  clear hg
  generalize w.alloc (.cells #[.string xk, .int .u64 (xu : Int), .int .u64 (xw : Int)] 25) = W0 at *
  refine (K0.out _ M.bl).mono ?_
  rintro e w1 ⟨rfl, B1⟩
  replace M := M.next B1
  clear B1
  obtain ⟨x0, x1, x2⟩ := M.bg.three
  go_wp2_with fail
  refine (KPU.out _ M.bl).mono ?_
  rintro e w2 ⟨B1, n1, d1, p, z1, rfl, hp, IP, b2⟩
  replace M := M.next b2
  have HP := Lib.hid hp
  clear hp b2 x0 x1 x2
  obtain ⟨x0, x1, x2⟩ := M.bg.three
  go_wp2_with fail
  refine (KPO.out _ M.bl).mono ?_
  rintro e w3 ⟨B2, n2, d2, y, r, z2, rfl, hr, IR, b3⟩
  replace M := M.next b3
  replace IP := IP.next b3
  obtain ⟨yk, yu, yw⟩ := y
  have HR := Lib.hid hr
  have Y := Box.new w3 #[.string yk, .int .u64 (yu : Int), .int .u64 (yw : Int)] 25
  have M4 := M.next ((Below.refl _ _).alloc (Nat.le_refl _) (.cells #[.string yk, .int .u64 (yu : Int), .int .u64 (yw : Int)] 25))
  replace IP := IP.alloc (.cells #[.string yk, .int .u64 (yu : Int), .int .u64 (yw : Int)] 25)
  replace IR := IR.alloc (.cells #[.string yk, .int .u64 (yu : Int), .int .u64 (yw : Int)] 25)
  obtain ⟨g2, hg2⟩ : ∃ g2, w3.heap.size = g2 := ⟨_, rfl⟩
  rw [hg2] at Y
  clear hr b3 x0 x1 x2
  obtain ⟨x0, x1, x2⟩ := M4.bg.three
  go_wp2_with fail
  try rw [hg2]
  clear hg2 M
  generalize w3.alloc (.cells #[.string yk, .int .u64 (yu : Int), .int .u64 (yw : Int)] 25) = w4 at *
  refine (KPT.out _ M4.bl).mono ?_
  rintro e w5 ⟨B3, n3, d3, q, z3, rfl, hq, IQ, b5⟩
  replace M4 := M4.next b5
  replace IP := IP.next b5
  replace IR := IR.next b5
  replace Y := Y.next b5
  have HQ := Lib.hid hq
  clear hq b5 x0 x1 x2
  go_wp2_with fail
  refine (KFI.out _ M4.bl).mono ?_
  rintro e w6 ⟨at_, ok, rfl, hat, hok, b6⟩
  have HF := Lib.hid (And.intro hat hok)
  have TL := Lib.hid (⟨I.out.next (M4.next b6).bl, IP.next b6, IR.next b6, IQ.next b6, (M4.next b6).bg, Y.next b6, (M4.next b6).bl⟩ : Tl w A n c l B1 n1 d1 p B2 n2 d2 r B3 n3 d3 q g ⟨xk, xu, xw⟩ g2 ⟨yk, yu, yw⟩ w6)
  clear hat hok b6 M4 IP IR IQ Y KPU KPO KPT KFI
  go_wp2_with fail
  refine (KRR.out _ TL.out.h).mono ?_
  rintro e w7 ⟨rfl, Bz⟩
  replace TL := Lib.hid (TL.out.next Bz)
  clear Bz KRR
  have HB := Lib.hid hr
  have E1 : Hid (p = l ∧ z1 = 1) := by
    have := HP.out; unfold pushA at this; rw [if_pos hr] at this
    injection this with a b; exact ⟨a.symm, b.symm⟩
  have E2 : Hid (r = l ∧ z2 = 1 ∧ (⟨yk, yu, yw⟩ : It) = itz) := by
    have := HR.out; unfold popA at this; rw [if_pos hr] at this
    injection this with a b; injection b with b d; exact ⟨b.symm, d.symm, a.symm⟩
  have E3 : Hid (q = l ∧ z3 = 1) := by
    have := HQ.out; unfold putA at this; rw [if_pos hr] at this
    injection this with a b; exact ⟨a.symm, b.symm⟩
  have E4 : Hid (at_ = 0 ∧ ok = false) := by
    have := HF.out; unfold findA at this; rw [if_pos hr] at this
    exact this
  obtain rfl := E1.out.2
  obtain rfl := E2.out.2.1
  obtain rfl := E3.out.2
  obtain ⟨rfl, rfl⟩ := E4.out
  have E5 := E2.out.2.2
  injection E5 with e5 e6 e7
  subst e5; subst e6; subst e7
  clear HP HR HQ HF hr
  rw [HB.out] at KHR
  go_wp2_with fail
  refine (KHR.out _ TL.out.h).mono ?_
  rintro e w8 ⟨rfl, Bz⟩
  replace TL := Lib.hid (TL.out.next Bz)
  clear Bz
  go_wp2_with fail
  refine (same11 TL.out.p TL.out.h E1.out.1 (by have := N60.out; omega)).mono ?_
  rintro e w9 ⟨rfl, Bz⟩
  replace TL := Lib.hid (TL.out.next Bz)
  clear Bz
  go_wp2_with fail
  refine (same11 TL.out.r TL.out.h E2.out.1 (by have := N60.out; omega)).mono ?_
  rintro e wa ⟨rfl, Bz⟩
  replace TL := Lib.hid (TL.out.next Bz)
  clear Bz
  go_wp2_with fail
  refine (same11 TL.out.q TL.out.h E3.out.1 (by have := N60.out; omega)).mono ?_
  rintro e wb ⟨rfl, Bz⟩
  replace TL := Lib.hid (TL.out.next Bz)
  clear Bz
  obtain ⟨y0, y1, y2⟩ := TL.out.y.three
  go_wp2_with fail
  refine (KF.out _).mono ?_
  rintro e W9 ⟨rfl, B9⟩
  have BE := Lib.hid (below_step TL.out.bl B9)
  clear B9
  go_wp2_with fail
  go_ret
  exact ⟨rfl, BE.out⟩
end Go.Proofs.Ytnkhgkpijfohkaa.heapTells
