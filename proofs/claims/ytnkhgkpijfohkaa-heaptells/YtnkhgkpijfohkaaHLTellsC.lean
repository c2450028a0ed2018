/- The walk of the law HeapTells, over what the six calls answer: an item that is refused. -/
import Derived.Test.YtnkhgkpijfohkaaIC
namespace Go.Proofs.Ytnkhgkpijfohkaa.heapTells
open Go.RowKit
open Go.Proofs.Ytnkhgkpijfohkaa
set_option linter.unusedVariables false
set_option linter.unusedSimpArgs false
set_option maxHeartbeats 30000000
set_option maxRecDepth 100000
theorem walk_bad (P : Prog11) (KCH : ∀ (a : It) (w : World), Calls Try.prog 17 #[itv a] w fun e w' => e = .returned (.int .i64 (chk a)) ∧ Below w.heap.size w w') (AW : ∀ w : World, Calls Try.prog 9 #[] w fun e w' => e = .returned (.bool true) ∧ Below w.heap.size w w') {A : Option Addr} {c : Nat} {l : List It} {w : World} (h : Lst w A c l) (x : It) (fx : x.Fit) (i : Int) (hi : -9223372036854775808 ≤ i ∧ i ≤ 9223372036854775807) (key : ByteArray) (hs : smallB l = true) (hk1 : x.k.size ≤ 100) (hk2 : key.size ≤ 100) (hr : rightB l = true) (hc : chk x ≠ 0) :
    Calls Try.prog 3 #[.slice A l.length c, itv x, .int .i64 i, .string key] w fun e w' => e = .returned (.bool true) ∧ Below w.heap.size w w' := by
  have KF := Lib.hid AW
  have K0 := Lib.hid (fun W (hb : Below w.heap.size w W) => refSmall10_any (h.1.next hb))
  have I := Lib.hid h.1
  have HC := Lib.hid h.2
  have PP := Lib.hid P
  have KK := Lib.hid (fun W => KCH x W)
  have FX := Lib.hid fx
  have HI := Lib.hid hi
  obtain ⟨xk, xu, xw⟩ := x
  have M := One.new w #[.string xk, .int .u64 (xu : Int), .int .u64 (xw : Int)] 25
  obtain ⟨g, hg⟩ : ∃ g, w.heap.size = g := ⟨_, rfl⟩
  rw [hg] at M
  obtain ⟨n, hn⟩ : ∃ n, n = l.length := ⟨_, rfl⟩
  have HN := Lib.hid hn
  rw [← hn] at K0 I ⊢
  clear h P KCH AW fx hi
  have n60 : l.length ≤ 60 := by
    unfold smallB at hs
    rw [Bool.and_eq_true] at hs
    exact of_decide_eq_true hs.1
  have N60 : Hid (n ≤ 60) := by unfold Hid; rw [hn]; exact n60
  rw [hs] at K0
  clear n60 hs hn
  replace hk1 : xk.size ≤ 100 := hk1
  have k1 : ¬ (100 : Int) < xk.size := by omega
  have k2 : ¬ (100 : Int) < key.size := by omega
  have KPU := Lib.hid (fun (W : World) (hb : Below w.heap.size w W) => PP.out.pushN (I.out.next hb) HC.out (by have := N60.out; omega) ⟨xk, xu, xw⟩ FX.out)
  have KPO := Lib.hid (fun (W : World) (hb : Below w.heap.size w W) => PP.out.popN (I.out.next hb) HC.out (by have := N60.out; omega))
  have KPT := Lib.hid (fun (W : World) (hb : Below w.heap.size w W) => PP.out.putN (I.out.next hb) HC.out (by have := N60.out; omega) i HI.out ⟨xk, xu, xw⟩ FX.out)
  have KFI := Lib.hid (fun (W : World) (hb : Below w.heap.size w W) => PP.out.findN (I.out.next hb) HC.out (by have := N60.out; omega) key)
  have KHR := Lib.hid (fun (W : World) (h : Its W A n c l) => PP.out.rightN h HC.out (by have := N60.out; omega))
  have KRR := Lib.hid (fun (W : World) (h : Its W A n c l) => right11_any h (by have := N60.out; omega))
  rw [hr] at KRR
  go_enter Try.func3, Try.ntmps3
  go_wp2_with fail
  clear hg
  generalize w.alloc (.cells #[.string xk, .int .u64 (xu : Int), .int .u64 (xw : Int)] 25) = W0 at *
  refine (K0.out _ M.bl).mono ?_
  rintro e w1 ⟨rfl, B1⟩
  replace M := M.next B1
  clear B1
  obtain ⟨x0, x1, x2⟩ := M.bg.three
  go_wp2_with fail
  refine (KPU.out _ M.bl).mono ?_
  rintro e w2 ⟨B1, n1, d1, p, z1, rfl, hp, IP, b2⟩
  replace M := M.next b2
  have HP := Lib.hid hp
  clear hp b2 x0 x1 x2
  obtain ⟨x0, x1, x2⟩ := M.bg.three
  go_wp2_with fail
  refine (KPO.out _ M.bl).mono ?_
  rintro e w3 ⟨B2, n2, d2, y, r, z2, rfl, hr, IR, b3⟩
  replace M := M.next b3
  replace IP := IP.next b3
  obtain ⟨yk, yu, yw⟩ := y
  have HR := Lib.hid hr
  have Y := Box.new w3 #[.string yk, .int .u64 (yu : Int), .int .u64 (yw : Int)] 25
  have M4 := M.next ((Below.refl _ _).alloc (Nat.le_refl _) (.cells #[.string yk, .int .u64 (yu : Int), .int .u64 (yw : Int)] 25))
  replace IP := IP.alloc (.cells #[.string yk, .int .u64 (yu : Int), .int .u64 (yw : Int)] 25)
  replace IR := IR.alloc (.cells #[.string yk, .int .u64 (yu : Int), .int .u64 (yw : Int)] 25)
  obtain ⟨g2, hg2⟩ : ∃ g2, w3.heap.size = g2 := ⟨_, rfl⟩
  rw [hg2] at Y
  clear hr b3 x0 x1 x2
  obtain ⟨x0, x1, x2⟩ := M4.bg.three
  go_wp2_with fail
  try rw [hg2]
  clear hg2 M
  generalize w3.alloc (.cells #[.string yk, .int .u64 (yu : Int), .int .u64 (yw : Int)] 25) = w4 at *
  refine (KPT.out _ M4.bl).mono ?_
  rintro e w5 ⟨B3, n3, d3, q, z3, rfl, hq, IQ, b5⟩
  replace M4 := M4.next b5
  replace IP := IP.next b5
  replace IR := IR.next b5
  replace Y := Y.next b5
  have HQ := Lib.hid hq
  clear hq b5 x0 x1 x2
  go_wp2_with fail
  refine (KFI.out _ M4.bl).mono ?_
  rintro e w6 ⟨at_, ok, rfl, hat, hok, b6⟩
  have HF := Lib.hid (And.intro hat hok)
  have TL := Lib.hid (⟨I.out.next (M4.next b6).bl, IP.next b6, IR.next b6, IQ.next b6, (M4.next b6).bg, Y.next b6, (M4.next b6).bl⟩ : Tl w A n c l B1 n1 d1 p B2 n2 d2 r B3 n3 d3 q g ⟨xk, xu, xw⟩ g2 ⟨yk, yu, yw⟩ w6)
  clear hat hok b6 M4 IP IR IQ Y KPU KPO KPT KFI
  go_wp2_with fail
  refine (KRR.out _ TL.out.h).mono ?_
  rintro e w7 ⟨rfl, Bz⟩
  replace TL := Lib.hid (TL.out.next Bz)
  clear Bz KRR
  have HB := Lib.hid hr
  have E2 : Hid (popA l = if l = [] then (itz, l, 3) else (nth l 0, popL l, 0)) := by unfold Hid popA; rw [if_neg (by rw [hr]; decide)]
  have E3 : Hid (putA l i ⟨xk, xu, xw⟩ = if i < 0 ∨ (l.length : Int) ≤ i then (l, 3) else if chk ⟨xk, xu, xw⟩ ≠ 0 then (l, chk ⟨xk, xu, xw⟩) else (putL l i.toNat ⟨xk, xu, xw⟩, 0)) := by unfold Hid putA; rw [if_neg (by rw [hr]; decide)]
  have E4 : Hid (at_ = (findL l key).getD 0 ∧ ok = (findL l key).isSome) := by
    have := HF.out; unfold findA at this; rw [if_neg (by rw [hr]; decide)] at this
    exact this
  have E0 : Hid (pushA l ⟨xk, xu, xw⟩ = if chk ⟨xk, xu, xw⟩ ≠ 0 then (l, chk ⟨xk, xu, xw⟩) else (pushL l ⟨xk, xu, xw⟩, 0)) := by unfold Hid pushA; rw [if_neg (by rw [hr]; decide)]
  obtain ⟨cc, hcc⟩ : ∃ cc, cc = chk ⟨xk, xu, xw⟩ := ⟨_, rfl⟩
  rw [← hcc] at KK E0 E3 hc
  clear hcc
  rw [HB.out] at KHR
  clear HF hr
  obtain ⟨x0, x1, x2⟩ := TL.out.x.three
  go_wp2_with fail
  refine (KK.out _).mono ?_
  rintro e w8 ⟨rfl, Bz⟩
  replace TL := Lib.hid (TL.out.next Bz)
  clear Bz KK x0 x1 x2
  go_upto_region 10 with fail
  go_cut [142] (fun sb wx => sb = .bool false ∧ Hid (Tl w A n c l B1 n1 d1 p B2 n2 d2 r B3 n3 d3 q g ⟨xk, xu, xw⟩ g2 ⟨yk, yu, yw⟩ wx))
  case first => as_aux_lemma =>
    have E1 : Hid (p = l ∧ z1 = cc) := by
      have := HP.out; rw [E0.out, if_pos hc] at this
      injection this with a b; exact ⟨a.symm, b.symm⟩
    obtain rfl := E1.out.2
    have hd1 : decide (z1 = 0) = false := decide_eq_false hc
    have hd2 : (z1 != 0) = true := by simpa using hc
    have hd3 : (z1 == 0) = false := by simpa using hc
    clear E0 HP
    refine wp_region_any (by kernel_rfl) ?_
    (try (change wpAny _ _ _ _ _ _ _ (World.drew _)))
    refine take_slot 112 (i := 0) (v := ?_) rfl rfl (by kernel_rfl) (by kernel_rfl) (by kernel_rfl) (fun _ _ _ h => h) (Or.inl ⟨by first | kernel_rfl | rfl, ?_⟩) ?_
    rotate_left
    (intro wz; (first | (go_simp; done) | (go_simp; with_reducible rfl)))
    (try simp only [Act.put, List.setIfInBounds_toArray, List.set_cons_zero, List.set_cons_succ])
    refine take_slot 113 (i := 1) (v := ?_) rfl rfl (by kernel_rfl) (by kernel_rfl) (by kernel_rfl) (fun _ _ _ h => h) (Or.inl ⟨by first | kernel_rfl | rfl, ?_⟩) ?_
    rotate_left
    (intro wz; (first | (go_simp; done) | (go_simp; with_reducible rfl)))
    (try simp only [Act.put, List.setIfInBounds_toArray, List.set_cons_zero, List.set_cons_succ])
    refine take_slot 114 (i := 2) (v := ?_) rfl rfl (by kernel_rfl) (by kernel_rfl) (by kernel_rfl) (fun _ _ _ h => h) (Or.inl ⟨by first | kernel_rfl | rfl, ?_⟩) ?_
    rotate_left
    (intro wz; (first | (go_simp; done) | (go_simp; with_reducible rfl)))
    (try simp only [Act.put, List.setIfInBounds_toArray, List.set_cons_zero, List.set_cons_succ])
    refine take_slot 115 (i := 3) (v := ?_) rfl rfl (by kernel_rfl) (by kernel_rfl) (by kernel_rfl) (fun _ _ _ h => h) (Or.inl ⟨by first | kernel_rfl | rfl, ?_⟩) ?_
    rotate_left
    (intro wz; (first | (go_simp; done) | (go_simp; with_reducible rfl)))
    (try simp only [Act.put, List.setIfInBounds_toArray, List.set_cons_zero, List.set_cons_succ])
    refine take_slot 116 (i := 4) (v := ?_) rfl rfl (by kernel_rfl) (by kernel_rfl) (by kernel_rfl) (fun _ _ _ h => h) (Or.inl ⟨by first | kernel_rfl | rfl, ?_⟩) ?_
    rotate_left
    (intro wz; (first | (go_simp; done) | (go_simp; with_reducible rfl)))
    (try simp only [Act.put, List.setIfInBounds_toArray, List.set_cons_zero, List.set_cons_succ])
    refine take_slot 117 (i := 5) (v := ?_) rfl rfl (by kernel_rfl) (by kernel_rfl) (by kernel_rfl) (fun _ _ _ h => h) (Or.inl ⟨by first | kernel_rfl | rfl, ?_⟩) ?_
    rotate_left
    (intro wz; (first | (go_simp; done) | (go_simp; with_reducible rfl)))
    (try simp only [Act.put, List.setIfInBounds_toArray, List.set_cons_zero, List.set_cons_succ])
    refine take_slot 118 (i := 6) (v := ?_) rfl rfl (by kernel_rfl) (by kernel_rfl) (by kernel_rfl) (fun _ _ _ h => h) (Or.inl ⟨by first | kernel_rfl | rfl, ?_⟩) ?_
    rotate_left
    (intro wz; (first | (go_simp; done) | (go_simp; with_reducible rfl)))
    (try simp only [Act.put, List.setIfInBounds_toArray, List.set_cons_zero, List.set_cons_succ])
    refine take_slot 119 (i := 7) (v := ?_) rfl rfl (by kernel_rfl) (by kernel_rfl) (by kernel_rfl) (fun _ _ _ h => h) (Or.inl ⟨by first | kernel_rfl | rfl, ?_⟩) ?_
    rotate_left
    (intro wz; (first | (go_simp; done) | (go_simp; with_reducible rfl)))
    (try simp only [Act.put, List.setIfInBounds_toArray, List.set_cons_zero, List.set_cons_succ])
    refine take_slot 120 (i := 8) (v := ?_) rfl rfl (by kernel_rfl) (by kernel_rfl) (by kernel_rfl) (fun _ _ _ h => h) (Or.inl ⟨by first | kernel_rfl | rfl, ?_⟩) ?_
    rotate_left
    (intro wz; (first | (go_simp; done) | (go_simp; with_reducible rfl)))
    (try simp only [Act.put, List.setIfInBounds_toArray, List.set_cons_zero, List.set_cons_succ])
    refine wpAny_ready (rs := [9]) (by kernel_rfl) (by simp) (AllReady.cons rfl (fun K hK => ?_) AllReady.nil)
    go_simp
    go_wp2_with (first | (go_at_call 16; refine (same11 TL.out.drew.p TL.out.drew.h E1.out.1 (by have := N60.out; omega)).mono ?_; rintro e Zt ⟨rfl, BZ⟩))
    refine take_slot 122 (i := 10) (v := ?_) rfl rfl (by kernel_rfl) (by kernel_rfl) (by kernel_rfl) (fun _ _ _ h => h) (Or.inl ⟨by first | kernel_rfl | rfl, ?_⟩) ?_
    rotate_left
    (intro wz; (first | (go_simp; done) | (go_simp; with_reducible rfl)))
    (try simp only [Act.put, List.setIfInBounds_toArray, List.set_cons_zero, List.set_cons_succ])
    refine take_slot 123 (i := 11) (v := ?_) rfl rfl (by kernel_rfl) (by kernel_rfl) (by kernel_rfl) (fun _ _ _ h => h) (Or.inl ⟨by first | kernel_rfl | rfl, ?_⟩) ?_
    rotate_left
    (intro wz; (first | (go_simp; done) | (go_simp; with_reducible rfl)))
    (try simp only [Act.put, List.setIfInBounds_toArray, List.set_cons_zero, List.set_cons_succ])
    refine take_slot 124 (i := 12) (v := ?_) rfl rfl (by kernel_rfl) (by kernel_rfl) (by kernel_rfl) (fun _ _ _ h => h) (Or.inl ⟨by first | kernel_rfl | rfl, ?_⟩) ?_
    rotate_left
    (intro wz; (first | (go_simp; done) | (go_simp; with_reducible rfl)))
    (try simp only [Act.put, List.setIfInBounds_toArray, List.set_cons_zero, List.set_cons_succ])
    refine take_slot 125 (i := 13) (v := ?_) rfl rfl (by kernel_rfl) (by kernel_rfl) (by kernel_rfl) (fun _ _ _ h => h) (Or.inl ⟨by first | kernel_rfl | rfl, ?_⟩) ?_
    rotate_left
    (intro wz; (first | (go_simp; done) | (go_simp; with_reducible rfl)))
    (try simp only [Act.put, List.setIfInBounds_toArray, List.set_cons_zero, List.set_cons_succ])
    refine take_slot 126 (i := 14) (v := ?_) rfl rfl (by kernel_rfl) (by kernel_rfl) (by kernel_rfl) (fun _ _ _ h => h) (Or.inl ⟨by first | kernel_rfl | rfl, ?_⟩) ?_
    rotate_left
    (intro wz; (first | (go_simp; done) | (go_simp; with_reducible rfl)))
    (try simp only [Act.put, List.setIfInBounds_toArray, List.set_cons_zero, List.set_cons_succ])
    refine take_slot 127 (i := 15) (v := ?_) rfl rfl (by kernel_rfl) (by kernel_rfl) (by kernel_rfl) (fun _ _ _ h => h) (Or.inl ⟨by first | kernel_rfl | rfl, ?_⟩) ?_
    rotate_left
    (intro wz; (first | (go_simp; done) | (go_simp; with_reducible rfl)))
    (try simp only [Act.put, List.setIfInBounds_toArray, List.set_cons_zero, List.set_cons_succ])
    refine take_slot 128 (i := 16) (v := ?_) rfl rfl (by kernel_rfl) (by kernel_rfl) (by kernel_rfl) (fun _ _ _ h => h) (Or.inl ⟨by first | kernel_rfl | rfl, ?_⟩) ?_
    rotate_left
    (intro wz; (first | (go_simp; done) | (go_simp; with_reducible rfl)))
    (try simp only [Act.put, List.setIfInBounds_toArray, List.set_cons_zero, List.set_cons_succ])
    refine take_slot 129 (i := 17) (v := undef) rfl rfl (by kernel_rfl) (by kernel_rfl) (by kernel_rfl) (fun _ _ _ h => h) (Or.inr ⟨by first | kernel_rfl | rfl, rfl⟩) ?_; simp only [Act.put, List.setIfInBounds_toArray, List.set_cons_zero, List.set_cons_succ]
    refine take_slot 130 (i := 18) (v := undef) rfl rfl (by kernel_rfl) (by kernel_rfl) (by kernel_rfl) (fun _ _ _ h => h) (Or.inr ⟨by first | kernel_rfl | rfl, rfl⟩) ?_; simp only [Act.put, List.setIfInBounds_toArray, List.set_cons_zero, List.set_cons_succ]
    refine take_slot 131 (i := 19) (v := undef) rfl rfl (by kernel_rfl) (by kernel_rfl) (by kernel_rfl) (fun _ _ _ h => h) (Or.inr ⟨by first | kernel_rfl | rfl, rfl⟩) ?_; simp only [Act.put, List.setIfInBounds_toArray, List.set_cons_zero, List.set_cons_succ]
    refine take_slot 132 (i := 20) (v := undef) rfl rfl (by kernel_rfl) (by kernel_rfl) (by kernel_rfl) (fun _ _ _ h => h) (Or.inr ⟨by first | kernel_rfl | rfl, rfl⟩) ?_; simp only [Act.put, List.setIfInBounds_toArray, List.set_cons_zero, List.set_cons_succ]
    refine take_slot 133 (i := 21) (v := undef) rfl rfl (by kernel_rfl) (by kernel_rfl) (by kernel_rfl) (fun _ _ _ h => h) (Or.inr ⟨by first | kernel_rfl | rfl, rfl⟩) ?_; simp only [Act.put, List.setIfInBounds_toArray, List.set_cons_zero, List.set_cons_succ]
    refine take_slot 134 (i := 22) (v := undef) rfl rfl (by kernel_rfl) (by kernel_rfl) (by kernel_rfl) (fun _ _ _ h => h) (Or.inr ⟨by first | kernel_rfl | rfl, rfl⟩) ?_; simp only [Act.put, List.setIfInBounds_toArray, List.set_cons_zero, List.set_cons_succ]
    refine take_slot 135 (i := 23) (v := undef) rfl rfl (by kernel_rfl) (by kernel_rfl) (by kernel_rfl) (fun _ _ _ h => h) (Or.inr ⟨by first | kernel_rfl | rfl, rfl⟩) ?_; simp only [Act.put, List.setIfInBounds_toArray, List.set_cons_zero, List.set_cons_succ]
    refine take_slot 136 (i := 24) (v := undef) rfl rfl (by kernel_rfl) (by kernel_rfl) (by kernel_rfl) (fun _ _ _ h => h) (Or.inr ⟨by first | kernel_rfl | rfl, rfl⟩) ?_; simp only [Act.put, List.setIfInBounds_toArray, List.set_cons_zero, List.set_cons_succ]
    refine take_slot 137 (i := 25) (v := undef) rfl rfl (by kernel_rfl) (by kernel_rfl) (by kernel_rfl) (fun _ _ _ h => h) (Or.inr ⟨by first | kernel_rfl | rfl, rfl⟩) ?_; simp only [Act.put, List.setIfInBounds_toArray, List.set_cons_zero, List.set_cons_succ]
    refine take_slot 138 (i := 26) (v := undef) rfl rfl (by kernel_rfl) (by kernel_rfl) (by kernel_rfl) (fun _ _ _ h => h) (Or.inr ⟨by first | kernel_rfl | rfl, rfl⟩) ?_; simp only [Act.put, List.setIfInBounds_toArray, List.set_cons_zero, List.set_cons_succ]
    refine take_slot 139 (i := 27) (v := undef) rfl rfl (by kernel_rfl) (by kernel_rfl) (by kernel_rfl) (fun _ _ _ h => h) (Or.inr ⟨by first | kernel_rfl | rfl, rfl⟩) ?_; simp only [Act.put, List.setIfInBounds_toArray, List.set_cons_zero, List.set_cons_succ]
    refine take_slot 140 (i := 28) (v := undef) rfl rfl (by kernel_rfl) (by kernel_rfl) (by kernel_rfl) (fun _ _ _ h => h) (Or.inr ⟨by first | kernel_rfl | rfl, rfl⟩) ?_; simp only [Act.put, List.setIfInBounds_toArray, List.set_cons_zero, List.set_cons_succ]
    refine take_slot 141 (i := 29) (v := ?_) rfl rfl (by kernel_rfl) (by kernel_rfl) (by kernel_rfl) (fun _ _ _ h => h) (Or.inl ⟨by first | kernel_rfl | rfl, ?_⟩) ?_
    rotate_left
    (intro wz; (first | (go_simp; done) | (go_simp; with_reducible rfl)))
    (try simp only [Act.put, List.setIfInBounds_toArray, List.set_cons_zero, List.set_cons_succ])
    refine take_slot 142 (i := 30) (v := ?_) rfl rfl (by kernel_rfl) (by kernel_rfl) (by kernel_rfl) (fun _ _ _ h => h) (Or.inl ⟨by first | kernel_rfl | rfl, ?_⟩) ?_
    rotate_left
    (intro wz; (first | (go_simp; done) | (go_simp; with_reducible rfl)))
    (try simp only [Act.put, List.setIfInBounds_toArray, List.set_cons_zero, List.set_cons_succ])
    refine wpAny_done (by kernel_rfl) ?_ _
    have BW := Lib.hid (TL.out.next (below_step (Below.refl w8.heap.size w8).drew BZ))
    go_wp2_with fail
    go_meet
    exact ⟨rfl, BW⟩
  case rest => as_aux_lemma =>
    obtain ⟨rfl, TW⟩ := hcut
    generalize wc = v0 at *
    clear TL E0
    replace TL := TW
    clear TW
    by_cases n0 : n = 0
    · as_aux_lemma =>
        obtain rfl := n0
        have hl : l = [] := List.length_eq_zero_iff.1 TL.out.h.len
        have E5 : Hid ((⟨yk, yu, yw⟩ : It) = itz ∧ r = l ∧ z2 = 3) := by
          have := HR.out; rw [E2.out, if_pos hl] at this
          injection this with a b; injection b with b d; exact ⟨a.symm, b.symm, d.symm⟩
        have E6 : Hid (q = l ∧ z3 = 3) := by
          have := HQ.out; rw [E3.out, if_pos (by rw [hl]; simp; omega)] at this
          injection this with a b; exact ⟨a.symm, b.symm⟩
        have m2 : n2 = 0 := by rw [← TL.out.r.len, E5.out.2.1, hl]; rfl
        have m3 : n3 = 0 := by rw [← TL.out.q.len, E6.out.1, hl]; rfl
        subst m2; subst m3
        obtain rfl := E5.out.2.2
        obtain rfl := E6.out.2
        have E7 := E4.out
        rw [hl] at E7
        obtain ⟨rfl, rfl⟩ := E7
        have E8 := E5.out.1
        injection E8 with e5 e6 e7
        subst e5; subst e6; subst e7
        clear HR HQ E2 E3 E4 E5 E6 hl
        go_wp2_with fail
        refine (KHR.out _ TL.out.h).mono ?_
        rintro e w8 ⟨rfl, Bz⟩
        replace TL := Lib.hid (TL.out.next Bz)
        clear Bz
        obtain ⟨y0, y1, y2⟩ := TL.out.y.three
        go_wp2_with fail
        refine (KF.out _).mono ?_
        rintro e W9 ⟨rfl, B9⟩
        have BE := Lib.hid (below_step TL.out.bl B9)
        clear B9
        go_wp2_with fail
        go_ret
        exact ⟨rfl, BE.out⟩
    · as_aux_lemma =>
        have n1' : 0 < n := by omega
        have ne : l ≠ [] := fun e => by have := TL.out.h.len; rw [e] at this; exact n0 this.symm
        have E5 : Hid ((⟨yk, yu, yw⟩ : It) = nth l 0 ∧ r = popL l ∧ z2 = 0) := by
          have := HR.out; rw [E2.out, if_neg ne] at this
          injection this with a b; injection b with b d; exact ⟨a.symm, b.symm, d.symm⟩
        obtain rfl := E5.out.2.2
        have N2 : Hid (n2 ≤ 1000) := by unfold Hid; rw [← TL.out.r.len, E5.out.2.1, popL_len (by rw [TL.out.h.len]; exact n1'), TL.out.h.len]; have := N60.out; omega
        have n0b : ¬ (n : Int) = 0 := by omega
        have n0c : decide ((n : Int) = 0) = false := decide_eq_false n0b
        have n0d : ((n : Int) == 0) = false := by simpa using n0b
        have n0e : (0 : Int) < n := by omega
        clear HR E2 ne
        go_upto_region 14 with fail
        obtain ⟨ad, hj, rfl, a0, a1, a2, ft⟩ := TL.out.h.read 0 n1'
        rw [← nth_eq hj, ← E5.out.1] at a0 a1 a2
        rw [show ad.add (0 * 3) = ad from by unfold Addr.add; rfl] at a0 a1 a2
        dsimp only at a0 a1 a2
        obtain ⟨y0, y1, y2⟩ := TL.out.y.three
        go_cut [195] (fun sb wx => sb = .bool false ∧ Hid (Tl w (some ad) n c l B1 n1 d1 p B2 n2 d2 r B3 n3 d3 q g ⟨xk, xu, xw⟩ g2 ⟨yk, yu, yw⟩ wx))
        case first => as_aux_lemma =>
          have KPP := Lib.hid (fun (W : World) (hb : Below v0.heap.size v0 W) => pop11_n (TL.out.h.next hb) n1' (by have := N60.out; omega))
          clear ft hj n0
          refine wp_region_any (by kernel_rfl) ?_
          (try (change wpAny _ _ _ _ _ _ _ (World.drew _)))
          refine take_slot 181 (i := 1) (v := ?_) rfl rfl (by kernel_rfl) (by kernel_rfl) (by kernel_rfl) (fun _ _ _ h => h) (Or.inl ⟨by first | kernel_rfl | rfl, ?_⟩) ?_
          rotate_left
          (intro wz; (first | (go_simp; done) | (go_simp; with_reducible rfl)))
          (try simp only [Act.put, List.setIfInBounds_toArray, List.set_cons_zero, List.set_cons_succ])
          refine take_slot 182 (i := 2) (v := ?_) rfl rfl (by kernel_rfl) (by kernel_rfl) (by kernel_rfl) (fun _ _ _ h => h) (Or.inl ⟨by first | kernel_rfl | rfl, ?_⟩) ?_
          rotate_left
          (intro wz; (first | (go_simp; done) | (go_simp; with_reducible rfl)))
          (try simp only [Act.put, List.setIfInBounds_toArray, List.set_cons_zero, List.set_cons_succ])
          refine wpAny_ready (rs := [0, 3]) (by kernel_rfl) (by simp) (AllReady.cons rfl (fun K hK => ?_) (AllReady.cons rfl (fun K hK => ?_) (AllReady.nil)))
          ·
            go_simp
            (refine hK _ _ ?_; clear hK K)
            refine wpAny_ready (rs := [3]) (by kernel_rfl) (by simp) (AllReady.cons rfl (fun K hK => ?_) AllReady.nil)
            go_simp
            (refine hK _ _ ?_; clear hK K)
            refine take_slot 184 (i := 4) (v := ?_) rfl rfl (by kernel_rfl) (by kernel_rfl) (by kernel_rfl) (fun _ _ _ h => h) (Or.inl ⟨by first | kernel_rfl | rfl, ?_⟩) ?_
            rotate_left
            (intro wz; (first | (go_simp; done) | (go_simp; with_reducible rfl)))
            (try simp only [Act.put, List.setIfInBounds_toArray, List.set_cons_zero, List.set_cons_succ])
            refine take_slot 185 (i := 5) (v := ?_) rfl rfl (by kernel_rfl) (by kernel_rfl) (by kernel_rfl) (fun _ _ _ h => h) (Or.inl ⟨by first | kernel_rfl | rfl, ?_⟩) ?_
            rotate_left
            (intro wz; (first | (go_simp; done) | (go_simp; with_reducible rfl)))
            (try simp only [Act.put, List.setIfInBounds_toArray, List.set_cons_zero, List.set_cons_succ])
            refine take_slot 186 (i := 6) (v := ?_) rfl rfl (by kernel_rfl) (by kernel_rfl) (by kernel_rfl) (fun _ _ _ h => h) (Or.inl ⟨by first | kernel_rfl | rfl, ?_⟩) ?_
            rotate_left
            (intro wz; (first | (go_simp; done) | (go_simp; with_reducible rfl)))
            (try simp only [Act.put, List.setIfInBounds_toArray, List.set_cons_zero, List.set_cons_succ])
            refine take_slot 187 (i := 7) (v := ?_) rfl rfl (by kernel_rfl) (by kernel_rfl) (by kernel_rfl) (fun _ _ _ h => h) (Or.inl ⟨by first | kernel_rfl | rfl, ?_⟩) ?_
            rotate_left
            (intro wz; (first | (go_simp; done) | (go_simp; with_reducible rfl)))
            (try simp only [Act.put, List.setIfInBounds_toArray, List.set_cons_zero, List.set_cons_succ])
            refine take_slot 188 (i := 8) (v := ?_) rfl rfl (by kernel_rfl) (by kernel_rfl) (by kernel_rfl) (fun _ _ _ h => h) (Or.inl ⟨by first | kernel_rfl | rfl, ?_⟩) ?_
            rotate_left
            (intro wz; (first | (go_simp; done) | (go_simp; with_reducible rfl)))
            (try simp only [Act.put, List.setIfInBounds_toArray, List.set_cons_zero, List.set_cons_succ])
            refine take_slot 189 (i := 9) (v := ?_) rfl rfl (by kernel_rfl) (by kernel_rfl) (by kernel_rfl) (fun _ _ _ h => h) (Or.inl ⟨by first | kernel_rfl | rfl, ?_⟩) ?_
            rotate_left
            (intro wz; (first | (go_simp; done) | (go_simp; with_reducible rfl)))
            (try simp only [Act.put, List.setIfInBounds_toArray, List.set_cons_zero, List.set_cons_succ])
            refine take_slot 190 (i := 10) (v := ?_) rfl rfl (by kernel_rfl) (by kernel_rfl) (by kernel_rfl) (fun _ _ _ h => h) (Or.inl ⟨by first | kernel_rfl | rfl, ?_⟩) ?_
            rotate_left
            (intro wz; (first | (go_simp; done) | (go_simp; with_reducible rfl)))
            (try simp only [Act.put, List.setIfInBounds_toArray, List.set_cons_zero, List.set_cons_succ])
            refine take_slot 191 (i := 11) (v := ?_) rfl rfl (by kernel_rfl) (by kernel_rfl) (by kernel_rfl) (fun _ _ _ h => h) (Or.inl ⟨by first | kernel_rfl | rfl, ?_⟩) ?_
            rotate_left
            (intro wz; (first | (go_simp; done) | (go_simp; with_reducible rfl)))
            (try simp only [Act.put, List.setIfInBounds_toArray, List.set_cons_zero, List.set_cons_succ])
            refine wpAny_ready (rs := [12]) (by kernel_rfl) (by simp) (AllReady.cons rfl (fun K hK => ?_) AllReady.nil)
            go_simp
            go_wp2_with (first | (go_at_call 19; (refine (KPP.out _ (by (repeat (first | with_reducible exact (Below.refl _ _).drew | refine below_step ?_ (by assumption))); done)).mono ?_); rintro e Zt ⟨B, m, d, rfl, J, BZ1⟩))
            refine wpAny_ready (rs := [13]) (by kernel_rfl) (by simp) (AllReady.cons rfl (fun K hK => ?_) AllReady.nil)
            go_simp
            go_wp2_with (first | (go_at_call 16; (refine (same11 ((TL.out.next (by (repeat (first | with_reducible exact (Below.refl _ _).drew | refine below_step ?_ (by assumption))); done)).r) J E5.out.2.1 (.inl N2.out)).mono ?_); rintro e Zu ⟨rfl, BZ2⟩))
            refine take_slot 194 (i := 14) (v := ?_) rfl rfl (by kernel_rfl) (by kernel_rfl) (by kernel_rfl) (fun _ _ _ h => h) (Or.inl ⟨by first | kernel_rfl | rfl, ?_⟩) ?_
            rotate_left
            (intro wz; (first | (go_simp; done) | (go_simp; with_reducible rfl)))
            (try simp only [Act.put, List.setIfInBounds_toArray, List.set_cons_zero, List.set_cons_succ])
            refine take_slot 195 (i := 15) (v := ?_) rfl rfl (by kernel_rfl) (by kernel_rfl) (by kernel_rfl) (fun _ _ _ h => h) (Or.inl ⟨by first | kernel_rfl | rfl, ?_⟩) ?_
            rotate_left
            (intro wz; (first | (go_simp; done) | (go_simp; with_reducible rfl)))
            (try simp only [Act.put, List.setIfInBounds_toArray, List.set_cons_zero, List.set_cons_succ])
            refine wpAny_done (by kernel_rfl) ?_ _
            have BW := Lib.hid (TL.out.next (below_step (below_step (Below.refl v0.heap.size v0).drew BZ1) BZ2))
            go_wp2_with fail
            go_meet
            exact ⟨rfl, BW⟩
          ·
            go_simp
            (refine hK _ _ ?_; clear hK K)
            refine wpAny_ready (rs := [0]) (by kernel_rfl) (by simp) (AllReady.cons rfl (fun K hK => ?_) AllReady.nil)
            go_simp
            (refine hK _ _ ?_; clear hK K)
            refine take_slot 184 (i := 4) (v := ?_) rfl rfl (by kernel_rfl) (by kernel_rfl) (by kernel_rfl) (fun _ _ _ h => h) (Or.inl ⟨by first | kernel_rfl | rfl, ?_⟩) ?_
            rotate_left
            (intro wz; (first | (go_simp; done) | (go_simp; with_reducible rfl)))
            (try simp only [Act.put, List.setIfInBounds_toArray, List.set_cons_zero, List.set_cons_succ])
            refine take_slot 185 (i := 5) (v := ?_) rfl rfl (by kernel_rfl) (by kernel_rfl) (by kernel_rfl) (fun _ _ _ h => h) (Or.inl ⟨by first | kernel_rfl | rfl, ?_⟩) ?_
            rotate_left
            (intro wz; (first | (go_simp; done) | (go_simp; with_reducible rfl)))
            (try simp only [Act.put, List.setIfInBounds_toArray, List.set_cons_zero, List.set_cons_succ])
            refine take_slot 186 (i := 6) (v := ?_) rfl rfl (by kernel_rfl) (by kernel_rfl) (by kernel_rfl) (fun _ _ _ h => h) (Or.inl ⟨by first | kernel_rfl | rfl, ?_⟩) ?_
            rotate_left
            (intro wz; (first | (go_simp; done) | (go_simp; with_reducible rfl)))
            (try simp only [Act.put, List.setIfInBounds_toArray, List.set_cons_zero, List.set_cons_succ])
            refine take_slot 187 (i := 7) (v := ?_) rfl rfl (by kernel_rfl) (by kernel_rfl) (by kernel_rfl) (fun _ _ _ h => h) (Or.inl ⟨by first | kernel_rfl | rfl, ?_⟩) ?_
            rotate_left
            (intro wz; (first | (go_simp; done) | (go_simp; with_reducible rfl)))
            (try simp only [Act.put, List.setIfInBounds_toArray, List.set_cons_zero, List.set_cons_succ])
            refine take_slot 188 (i := 8) (v := ?_) rfl rfl (by kernel_rfl) (by kernel_rfl) (by kernel_rfl) (fun _ _ _ h => h) (Or.inl ⟨by first | kernel_rfl | rfl, ?_⟩) ?_
            rotate_left
            (intro wz; (first | (go_simp; done) | (go_simp; with_reducible rfl)))
            (try simp only [Act.put, List.setIfInBounds_toArray, List.set_cons_zero, List.set_cons_succ])
            refine take_slot 189 (i := 9) (v := ?_) rfl rfl (by kernel_rfl) (by kernel_rfl) (by kernel_rfl) (fun _ _ _ h => h) (Or.inl ⟨by first | kernel_rfl | rfl, ?_⟩) ?_
            rotate_left
            (intro wz; (first | (go_simp; done) | (go_simp; with_reducible rfl)))
            (try simp only [Act.put, List.setIfInBounds_toArray, List.set_cons_zero, List.set_cons_succ])
            refine take_slot 190 (i := 10) (v := ?_) rfl rfl (by kernel_rfl) (by kernel_rfl) (by kernel_rfl) (fun _ _ _ h => h) (Or.inl ⟨by first | kernel_rfl | rfl, ?_⟩) ?_
            rotate_left
            (intro wz; (first | (go_simp; done) | (go_simp; with_reducible rfl)))
            (try simp only [Act.put, List.setIfInBounds_toArray, List.set_cons_zero, List.set_cons_succ])
            refine take_slot 191 (i := 11) (v := ?_) rfl rfl (by kernel_rfl) (by kernel_rfl) (by kernel_rfl) (fun _ _ _ h => h) (Or.inl ⟨by first | kernel_rfl | rfl, ?_⟩) ?_
            rotate_left
            (intro wz; (first | (go_simp; done) | (go_simp; with_reducible rfl)))
            (try simp only [Act.put, List.setIfInBounds_toArray, List.set_cons_zero, List.set_cons_succ])
            refine wpAny_ready (rs := [12]) (by kernel_rfl) (by simp) (AllReady.cons rfl (fun K hK => ?_) AllReady.nil)
            go_simp
            go_wp2_with (first | (go_at_call 19; (refine (KPP.out _ (by (repeat (first | with_reducible exact (Below.refl _ _).drew | refine below_step ?_ (by assumption))); done)).mono ?_); rintro e Zt ⟨B, m, d, rfl, J, BZ1⟩))
            refine wpAny_ready (rs := [13]) (by kernel_rfl) (by simp) (AllReady.cons rfl (fun K hK => ?_) AllReady.nil)
            go_simp
            go_wp2_with (first | (go_at_call 16; (refine (same11 ((TL.out.next (by (repeat (first | with_reducible exact (Below.refl _ _).drew | refine below_step ?_ (by assumption))); done)).r) J E5.out.2.1 (.inl N2.out)).mono ?_); rintro e Zu ⟨rfl, BZ2⟩))
            refine take_slot 194 (i := 14) (v := ?_) rfl rfl (by kernel_rfl) (by kernel_rfl) (by kernel_rfl) (fun _ _ _ h => h) (Or.inl ⟨by first | kernel_rfl | rfl, ?_⟩) ?_
            rotate_left
            (intro wz; (first | (go_simp; done) | (go_simp; with_reducible rfl)))
            (try simp only [Act.put, List.setIfInBounds_toArray, List.set_cons_zero, List.set_cons_succ])
            refine take_slot 195 (i := 15) (v := ?_) rfl rfl (by kernel_rfl) (by kernel_rfl) (by kernel_rfl) (fun _ _ _ h => h) (Or.inl ⟨by first | kernel_rfl | rfl, ?_⟩) ?_
            rotate_left
            (intro wz; (first | (go_simp; done) | (go_simp; with_reducible rfl)))
            (try simp only [Act.put, List.setIfInBounds_toArray, List.set_cons_zero, List.set_cons_succ])
            refine wpAny_done (by kernel_rfl) ?_ _
            have BW := Lib.hid (TL.out.next (below_step (below_step (Below.refl v0.heap.size v0).drew BZ1) BZ2))
            go_wp2_with fail
            go_meet
            exact ⟨rfl, BW⟩
        case rest => as_aux_lemma =>
          obtain ⟨rfl, TW⟩ := hcut
          generalize wc = v1 at *
          clear y0 y1 y2 a0 a1 a2 hj ft TL E5 N2
          replace TL := TW
          clear TW
          have nw : IntKind.i64.wrap ((n : Int) - 1) = (n : Int) - 1 := by rw [IntKind.wrap_i64]; have := N60.out; omega
          have FN : Hid (firstI l key n = -1) := by unfold Hid; rw [← TL.out.h.len]; exact firstI_end l key
          go_wp2_with fail
          go_loopg [19, 20] n (fun qq s19 s20 wr => ∃ z : Int, s20 = .int .i64 z ∧ z = (qq : Int) - 1 ∧ s19 = .int .i64 (firstI l key qq) ∧ qq ≤ n ∧ Hid (Tl w (some ad) n c l B1 n1 d1 p B2 n2 d2 r B3 n3 d3 q g ⟨xk, xu, xw⟩ g2 ⟨yk, yu, yw⟩ wr))
          case atStart => exact ⟨(n : Int) - 1, rfl, rfl, by rw [FN.out], Nat.le_refl _, TL⟩
          case round =>
            clear TL nw FN
            obtain ⟨z, rfl, hz, rfl, hqn, TL⟩ := hrel
            by_cases q0 : gk = 0
            · obtain rfl : z = -1 := by omega
              rw [q0]
              clear q0 hz hqn
              go_upto_region 22 with fail
              go_cut [19, 220] (fun s19 sb wx => sb = .bool false ∧ wr = wx)
              case first => as_aux_lemma =>
                cases hf : findL l key with
                | none =>
                  rw [firstI_none hf]
                  have E7 : at_ = 0 ∧ ok = false := by have := E4.out; rw [hf] at this; exact this
                  obtain ⟨rfl, rfl⟩ := E7
                  clear hf E4
                  go_wp2_with fail
                  go_meet
                  exact ⟨rfl, rfl⟩
                | some f =>
                  rw [firstI_some hf]
                  have E7 : at_ = f ∧ ok = true := by have := E4.out; rw [hf] at this; exact this
                  obtain ⟨e8, rfl⟩ := E7
                  subst e8
                  have f0 : (0 : Int) ≤ at_ := by omega
                  have f1 : ¬ (at_ : Int) < 0 := by omega
                  clear hf E4
                  go_wp2_with fail
                  go_meet
                  exact ⟨rfl, rfl⟩
              case rest => as_aux_lemma =>
                obtain ⟨rfl, hw⟩ := hcut
                subst hw
                clear E4
                by_cases hz : i < 0 ∨ (n : Int) ≤ i
                · have E6 : Hid (q = l ∧ z3 = 3) := by
                    have := HQ.out; rw [E3.out, if_pos (by rw [TL.out.h.len]; exact hz)] at this
                    injection this with a b; exact ⟨a.symm, b.symm⟩
                  obtain rfl := E6.out.2
                  clear HQ E3
                  by_cases i0 : i < 0
                  · have i1 : decide (i < 0) = true := decide_eq_true i0
                    clear hz
                    go_wp2_with fail
                    refine (same11 TL.out.q TL.out.h E6.out.1 (by have := N60.out; omega)).mono ?_
                    rintro e w9 ⟨rfl, Bz⟩
                    replace TL := Lib.hid (TL.out.next Bz)
                    clear Bz
                    go_wp2_with fail
                    refine (KF.out _).mono ?_
                    rintro e W9 ⟨rfl, B9⟩
                    have BE := Lib.hid (below_step TL.out.bl B9)
                    clear B9
                    go_wp2_with fail
                    go_ret
                    exact ⟨rfl, BE.out⟩
                  · have i1 : decide (i < 0) = false := decide_eq_false i0
                    have i2 : (n : Int) ≤ i := by omega
                    have i3 : ¬ i < (n : Int) := by omega
                    clear hz
                    go_wp2_with fail
                    refine (same11 TL.out.q TL.out.h E6.out.1 (by have := N60.out; omega)).mono ?_
                    rintro e w9 ⟨rfl, Bz⟩
                    replace TL := Lib.hid (TL.out.next Bz)
                    clear Bz
                    go_wp2_with fail
                    refine (KF.out _).mono ?_
                    rintro e W9 ⟨rfl, B9⟩
                    have BE := Lib.hid (below_step TL.out.bl B9)
                    clear B9
                    go_wp2_with fail
                    go_ret
                    exact ⟨rfl, BE.out⟩
                · have i0 : ¬ i < 0 := by omega
                  have i1 : decide (i < 0) = false := decide_eq_false i0
                  have i2 : i < (n : Int) := by omega
                  have i3 : ¬ (n : Int) ≤ i := by omega
                  obtain ⟨j, rfl⟩ : ∃ j : Nat, i = (j : Int) := ⟨i.toNat, by omega⟩
                  have E9 : Hid (putA l (j : Int) ⟨xk, xu, xw⟩ = if cc ≠ 0 then (l, cc) else (putL l j ⟨xk, xu, xw⟩, 0)) := by
                    unfold Hid; rw [E3.out, if_neg (by rw [TL.out.h.len]; exact hz), Int.toNat_natCast]
                  clear E3 hz
                  have E6 : Hid (q = l ∧ z3 = cc) := by
                    have := HQ.out; rw [E9.out, if_pos hc] at this
                    injection this with a b; exact ⟨a.symm, b.symm⟩
                  obtain rfl := E6.out.2
                  have hd1 : decide (z3 = 0) = false := decide_eq_false hc
                  have hd2 : (z3 != 0) = true := by simpa using hc
                  have hd3 : (z3 == 0) = false := by simpa using hc
                  clear HQ E9 hc
                  go_wp2_with fail
                  refine (same11 TL.out.q TL.out.h E6.out.1 (by have := N60.out; omega)).mono ?_
                  rintro e w9 ⟨rfl, Bz⟩
                  replace TL := Lib.hid (TL.out.next Bz)
                  clear Bz
                  go_wp2_with fail
                  refine (KF.out _).mono ?_
                  rintro e W9 ⟨rfl, B9⟩
                  have BE := Lib.hid (below_step TL.out.bl B9)
                  clear B9
                  go_wp2_with fail
                  go_ret
                  exact ⟨rfl, BE.out⟩
            · obtain ⟨j, hj⟩ : ∃ j, gk = j + 1 := ⟨gk - 1, by omega⟩
              obtain rfl : z = (j : Int) := by omega
              have j0 : (0 : Int) ≤ j := by omega
              have j1 : (j : Int) < n := by omega
              have jn : j < n := by omega
              have jl : j < l.length := by rw [TL.out.h.len]; exact jn
              have jw : IntKind.i64.wrap ((j : Int) - 1) = (j : Int) - 1 := by rw [IntKind.wrap_i64]; have := N60.out; omega
              obtain ⟨ad', hj', e6, a0, a1, a2, ft⟩ := TL.out.h.read j jn
              obtain rfl := Option.some.inj e6
              rw [← nth_eq hj'] at a0
              have FQ1 := Lib.hid (firstI_step (key := key) jl)
              have HJ := Lib.hid hj
              have HN2 := Lib.hid hqn
              rw [hj]
              clear hj' a1 a2 ft jl e6 hz hqn
              obtain ⟨yy, hyy⟩ : ∃ yy, yy = (nth l j).k := ⟨_, rfl⟩
              rw [← hyy] at a0 FQ1
              clear hyy
              by_cases hk : yy = key
              · have hk1 : (yy.toList == key.toList) = true := by rw [hk]; simp
                have FE : Hid (firstI l key j = (j : Int)) := by unfold Hid; rw [FQ1.out, if_pos hk]
                clear hk
                clear FQ1
                go_wp2_with fail
                go_roundg (gk - 1)
                case measure => have := HJ.out; omega
                case rel =>
                  go_light
                  exact ⟨(j : Int) - 1, by go_num, by have := HJ.out; omega, by rw [show gk - 1 = j by have := HJ.out; omega, FE.out], by have := HJ.out; have := HN2.out; omega, TL⟩
              · have hk1 : (yy.toList == key.toList) = false := by
                  cases q : (yy.toList == key.toList) with
                  | false => rfl
                  | true => exact absurd (text_eq (by simpa using q)) hk
                have FE : Hid (firstI l key j = firstI l key (j + 1)) := by unfold Hid; rw [FQ1.out, if_neg hk]
                clear FQ1
                go_wp2_with fail
                go_roundg (gk - 1)
                case measure => have := HJ.out; omega
                case rel =>
                  go_light
                  exact ⟨(j : Int) - 1, by go_num, by have := HJ.out; omega, by rw [show gk - 1 = j by have := HJ.out; omega, FE.out], by have := HJ.out; have := HN2.out; omega, TL⟩
end Go.Proofs.Ytnkhgkpijfohkaa.heapTells
