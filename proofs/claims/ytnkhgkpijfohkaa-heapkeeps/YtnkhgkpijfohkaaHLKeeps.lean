/- The walk of the law HeapKeeps, over what the six calls answer. -/
import Derived.Test.YtnkhgkpijfohkaaIB
namespace Go.Proofs.Ytnkhgkpijfohkaa.heapKeeps
open Go.RowKit
open Go.Proofs.Ytnkhgkpijfohkaa
set_option linter.unusedVariables false
set_option linter.unusedSimpArgs false
set_option maxHeartbeats 8000000
set_option maxRecDepth 100000
theorem popK (P : Prog11) {A : Option Addr} {c : Nat} {l : List It} {w : World} (h : Lst w A c l) (hn : l.length ≤ 1000) : Calls Try.prog 11 #[.slice A l.length c] w fun e w' => ∃ B d y p z, e = .returned (.tuple #[itv y, .slice B p.length d, .int .i64 z]) ∧ popA l = (y, p, z) ∧ Lst w' B d p ∧ Below w.heap.size w w' :=
  (P.pop h hn).mono (by rintro e w' ⟨B, d, rfl, L, b⟩; exact ⟨B, d, _, _, _, rfl, rfl, L, b⟩)
theorem walk (P : Prog11) (PC : CmpOk) (AW : ∀ w : World, Calls Try.prog 9 #[] w fun e w' => e = .returned (.bool true) ∧ Below w.heap.size w w') {A : Option Addr} {n c : Nat} {s : List Ac} {w : World} (h : Acts w A n c s) :
    Calls Try.prog 4 #[.slice A n c] w fun e w' => e = .returned (.bool true) ∧ Below w.heap.size w w' := by
  have KF := Lib.hid AW
  have I := Lib.hid h
  have KM := Lib.hid (fun (x : It) W => refMay_any x W)
  have PP := Lib.hid P
  have PC := Lib.hid PC
  have R0 : Hid (KInv [] [] ∧ ([] : List It).length ≤ 0) := ⟨KInv.start, Nat.le_refl _⟩
  have N0 : Hid (∀ W : World, Lst W none 0 []) := fun W => ⟨Its.none_ _ _ _ rfl (by decide), fun _ => rfl⟩
  clear h P AW
  go_enter Try.func4, Try.ntmps4
  go_wp2_with fail
  go_loopg [3, 4, 5] n (fun q s3 s4 s5 wr => ∃ (i : Nat) (X : Option Addr) (d : Nat) (hl : List It) (Y : Option Addr) (f : Nat) (al : List It), s5 = .int .i64 (i : Int) ∧ s3 = .slice X hl.length d ∧ s4 = .slice Y al.length f ∧ i + q = n ∧ i ≤ 60 ∧ Hid (KInv hl al ∧ hl.length ≤ i) ∧ Hid (Lst wr X d hl) ∧ Hid (Lst wr Y f al) ∧ Hid (Below w.heap.size w wr))
  case atStart => exact ⟨0, none, 0, [], none, 0, [], rfl, rfl, rfl, by omega, by decide, R0, N0.out _, N0.out _, Below.refl _ _⟩
  case round =>
    clear R0 N0
    obtain ⟨i, X, d, hl, Y, f, al, rfl, rfl, rfl, hq, i60, KI, LH, LA, BL⟩ := hrel
    have HQ := Lib.hid hq
    have hlen : al.length = hl.length := KI.out.1.len.symm
    rw [hlen]
    obtain ⟨m, hm⟩ : ∃ m, m = hl.length := ⟨_, rfl⟩
    rw [← hm]
    have HM := Lib.hid hm
    have HA : Hid (al.length = m) := by unfold Hid; rw [hlen, hm]
    have ML : Hid (m ≤ i) := by unfold Hid; rw [hm]; exact KI.out.2
    clear hlen hm
    by_cases lt : i < n ∧ i < 60
    · obtain ⟨lt1, lt2⟩ := lt
      have i1 : (i : Int) < n := by omega
      have i2 : (i : Int) < 60 := by omega
      have i0 : (0 : Int) ≤ i := by omega
      obtain ⟨ad, a, rfl, fa, a0, a1, a2, a3, a4, a5⟩ := (I.out.next BL.out).read i lt1
      obtain ⟨pop, put, z, xk, xu, xw⟩ := a
      dsimp only at a0 a1 a2 a3 a4 a5
      have FA := Lib.hid fa
      have LT : Hid (i < n ∧ i < 60) := ⟨lt1, lt2⟩
      have M := One.new wr #[.bool pop, .bool put, .int .i64 z, .string xk, .int .u64 (xu : Int), .int .u64 (xw : Int)] 44
      have b1 := (Below.refl wr.heap.size wr).alloc (Nat.le_refl _) (.cells #[.bool pop, .bool put, .int .i64 z, .string xk, .int .u64 (xu : Int), .int .u64 (xw : Int)] 44)
      replace LH := Lib.hid (LH.out.to b1)
      replace LA := Lib.hid (LA.out.to b1)
      obtain ⟨g, hg⟩ : ∃ g, wr.heap.size = g := ⟨_, rfl⟩
      rw [hg] at M
      clear fa lt1 lt2 hq b1
      go_upto_region 6 with fail
      clear a0 a1 a2 a3 a4 a5 hg
      generalize wr.alloc (.cells #[.bool pop, .bool put, .int .i64 z, .string xk, .int .u64 (xu : Int), .int .u64 (xw : Int)] 44) = V at *
      have BM := Lib.hid (below_step BL.out M.bl)
      have MB := Lib.hid M.bg
      clear M BL
      have a3 := MB.out.cell (i := 3) rfl; have a4 := MB.out.cell (i := 4) rfl; have a5 := MB.out.cell (i := 5) rfl
      have K1 := Lib.hid (KM.out ⟨xk, xu, xw⟩)
      go_wp2_with fail
      refine (K1.out _).mono ?_
      rintro e W1 ⟨rfl, B1⟩
      replace LH := Lib.hid (LH.out.to B1)
      replace LA := Lib.hid (LA.out.to B1)
      replace MB := Lib.hid (MB.out.next B1)
      replace BM := Lib.hid (below_step BM.out B1)
      clear B1 K1 KM a3 a4 a5
      cases hx : mayB ⟨xk, xu, xw⟩
      · go_wp2_with fail
        refine (KF.out _).mono ?_
        rintro e W2 ⟨rfl, B2⟩
        go_wp2_with fail
        go_ret
        exact ⟨rfl, below_step BM.out B2⟩
      · have HX := Lib.hid hx
        clear hx
        have a0 := MB.out.cell (i := 0) rfl
        go_upto_block 2 with fail
        go_cut [3, 4] (fun s3 s4 wx => ∃ (X : Option Addr) (d : Nat) (hl : List It) (Y : Option Addr) (f : Nat) (al : List It), s3 = .slice X hl.length d ∧ s4 = .slice Y al.length f ∧ Hid (KInv hl al ∧ hl.length ≤ i + 1) ∧ Hid (Lst wx X d hl) ∧ Hid (Lst wx Y f al) ∧ Hid (Below w.heap.size w wx))
        case first =>
          cases pop
          · have a1 := MB.out.cell (i := 1) rfl
            go_upto_region 22 with fail
            cases put
            ·
              -- a push
              have a3 := MB.out.cell (i := 3) rfl; have a4 := MB.out.cell (i := 4) rfl; have a5 := MB.out.cell (i := 5) rfl
              have KP := Lib.hid (PP.out.push LH.out (by have := KI.out.2; have := LT.out; omega) ⟨xk, xu, xw⟩ FA.out.x)
              have PE : Hid (pushA hl ⟨xk, xu, xw⟩ = (pushL hl ⟨xk, xu, xw⟩, 0)) := by unfold Hid pushA; rw [KI.out.1.right, if_neg (by decide), if_neg (by rw [chk_may.2 HX.out]; decide)]
              rw [PE.out, ← HM.out] at KP
              go_wp2_with fail
              refine KP.out.mono ?_
              rintro e W2 ⟨B, d2, rfl, L2, B1⟩
              replace LA := Lib.hid (LA.out.to B1)
              have LQ := Lib.hid L2
              replace MB := Lib.hid (MB.out.next B1)
              have BW := Lib.hid (below_step BM.out B1)
              clear B1 KP a0 a1 a3 a4 a5 BM LH L2
              have a3 := MB.out.cell (i := 3) rfl; have a4 := MB.out.cell (i := 4) rfl; have a5 := MB.out.cell (i := 5) rfl
              have e3 := (MB.out.alloc (.cells #[] 25)).cell (i := 3) rfl; have e4 := (MB.out.alloc (.cells #[] 25)).cell (i := 4) rfl; have e5 := (MB.out.alloc (.cells #[] 25)).cell (i := 5) rfl
              have IA1 := Lib.hid LA.out.1
              have IA2 := Lib.hid LA.out.2
              rw [HA.out] at IA1
              have S0 : Hid (([] : List It).length + al.length ≤ 1000000) := by unfold Hid; rw [HA.out]; have := ML.out; have := LT.out; simp only [List.length_nil]; omega
              have S1 : Hid (([] ++ al).length + [(⟨xk, xu, xw⟩ : It)].length ≤ 1000000) := by unfold Hid; rw [List.nil_append, HA.out]; have := ML.out; have := LT.out; simp only [List.length_singleton]; omega
              have KS := Lib.hid (fun (A' : Option Addr) (k' c' : Nat) (W : World) (h : Its W A' k' c' (([] ++ al) ++ [(⟨xk, xu, xw⟩ : It)])) => refSort10_any h (by
                  intro y hy
                  rw [List.nil_append, List.mem_append, List.mem_singleton] at hy
                  rcases hy with hy | rfl
                  · exact KI.out.1.mayW y hy
                  · exact (chk_zero.1 (chk_may.2 HX.out)).2) (by rw [← h.len, List.nil_append, List.length_append, HA.out]; have := ML.out; have := LT.out; simp only [List.length_singleton]; omega))
              go_wp2_with fail
              go_region_law (first
                | (refine step_appG (b := W2.heap.size) (v := v1) (l := [] ++ al) (m := [(⟨xk, xu, xw⟩ : It)]) rfl (.tmp 46) (.tmp 49) rfl rfl rfl (by (repeat (first | with_reducible exact R1 | with_reducible refine Rw.drew ?_ | refine Rw.alloc ?_ _)); done) (Below.size (B := W2.heap.size) (w := W2) (by (repeat (first | with_reducible exact Below.refl _ _ | with_reducible exact hz1 | with_reducible refine Below.drew ?_ | refine below_al ?_ _)); done)) (by repeat (first | with_reducible exact J1 | with_reducible refine Its.drew ?_ | exact Its.new _ _ FA.out.x _ | refine Its.alloc ?_ _)) (fun e => absurd e (by simp)) S1.out ?_; intro v2 Z2 R2 G2 C2; have hz2 : Below W2.heap.size W2 Z2 := Below.trans (by (repeat (first | with_reducible exact Below.refl _ _ | with_reducible exact hz1 | with_reducible refine Below.drew ?_ | refine below_al ?_ _)); done) C2; obtain ⟨A2, k2, c2, rfl, J2, -⟩ := R2.itn; clear R2 G2 C2)
                | (refine step_appG (b := W2.heap.size) (v := .slice (some ⟨_, 0, none⟩) 0 0) (l := []) (m := al) rfl (.tmp 44) (.tmp 45) rfl rfl rfl (by repeat (first | with_reducible refine Rw.drew ?_ | exact Rw.madeA _ | exact Rw.madeB _ _ | refine Rw.alloc ?_ _)) (Below.size (B := W2.heap.size) (w := W2) (by (repeat (first | with_reducible exact Below.refl _ _ | with_reducible refine Below.drew ?_ | refine below_al ?_ _)); done)) (by (repeat (first | with_reducible exact IA1.out | with_reducible refine Its.drew ?_ | refine Its.alloc ?_ _)); done) IA2.out S0.out ?_; intro v1 Z1 R1 G1 C1; have hz1 : Below W2.heap.size W2 Z1 := Below.trans (by (repeat (first | with_reducible exact Below.refl _ _ | with_reducible refine Below.drew ?_ | refine below_al ?_ _)); done) C1; (first | have f3 := keep_cell hz1 a3 | skip); (first | have f4 := keep_cell hz1 a4 | skip); (first | have f5 := keep_cell hz1 a5 | skip); (first | have J1 := Its.grow ((Its.new W2 _ FA.out.x 25).alloc (.cells #[] 25)) G1 (own_ne (Nat.ne_of_lt (Nat.lt_succ_self _)) 0 0) | have J1 := Its.grow (Its.newB W2 (.cells #[] 25) _ FA.out.x 25) G1 (own_ne (Nat.succ_ne_self _) 0 0) | have J1 := Its.grow ((Its.new W2 _ FA.out.x 25).alloc (.cells #[] 25)).drew G1 (own_ne (Nat.ne_of_lt (Nat.lt_succ_self _)) 0 0) | have J1 := Its.grow (Its.newB W2 (.cells #[] 25) _ FA.out.x 25).drew G1 (own_ne (Nat.succ_ne_self _) 0 0) | skip))
                | (go_simp; go_wp2_with (first | (go_at_call 24; refine (KS.out _ _ _ _ J2).mono ?_; rintro e' V3 ⟨vs, t, rfl, st, RS, C3⟩; have hz3 : Below W2.heap.size W2 V3 := below_step (by (repeat (first | with_reducible exact Below.refl _ _ | with_reducible exact hz2 | with_reducible refine Below.drew ?_ | refine below_al ?_ _)); done) C3; obtain ⟨A3, k3, c3, rfl, J3, J3c⟩ := RS.itn))))
              all_goals (go_wp2_with fail; go_meet)
              all_goals exact ⟨B, d2, pushL hl ⟨xk, xu, xw⟩, A3, c3, t, rfl, by rw [J3.len], ⟨KI.out.1.push HX.out (by rw [List.nil_append] at st; exact st), by rw [pushL_len]; have := KI.out.2; omega⟩, LQ.out.to hz3, J3.lst J3c, below_step BW.out hz3⟩
            ·
              -- a put
              have a2 := MB.out.cell (i := 2) rfl; have a3 := MB.out.cell (i := 3) rfl; have a4 := MB.out.cell (i := 4) rfl; have a5 := MB.out.cell (i := 5) rfl
              have KP := Lib.hid (PP.out.put LH.out (by have := KI.out.2; have := LT.out; omega) z ⟨xk, xu, xw⟩ ⟨FA.out.lo, FA.out.hi⟩ FA.out.x)
              by_cases hz : 0 ≤ z ∧ z < (m : Int)
              · obtain ⟨j, rfl⟩ : ∃ j : Nat, z = (j : Int) := ⟨z.toNat, by omega⟩
                have j0 : (0 : Int) ≤ j := by omega
                have j1 : (j : Int) < m := hz.2
                have jm : j < m := by omega
                have JL : Hid (j < hl.length) := by unfold Hid; rw [← HM.out]; exact jm
                have PE : Hid (putA hl (j : Int) ⟨xk, xu, xw⟩ = (putL hl j ⟨xk, xu, xw⟩, 0)) := by
                  unfold Hid putA; rw [KI.out.1.right, if_neg (by decide), if_neg (by have := JL.out; omega), if_neg (by rw [chk_may.2 HX.out]; decide), Int.toNat_natCast]
                rw [PE.out, ← HM.out] at KP
                clear hz
                go_wp2_with fail
                refine KP.out.mono ?_
                rintro e W2 ⟨B, d2, rfl, L2, B1⟩
                replace LA := Lib.hid (LA.out.to B1)
                have LQ := Lib.hid L2
                replace LH := Lib.hid (LH.out.to B1)
                replace MB := Lib.hid (MB.out.next B1)
                have BW := Lib.hid (below_step BM.out B1)
                clear B1 KP a0 a1 a2 a3 a4 a5 BM L2
                have a2 := MB.out.cell (i := 2) rfl; have a3 := MB.out.cell (i := 3) rfl; have a4 := MB.out.cell (i := 4) rfl; have a5 := MB.out.cell (i := 5) rfl
                obtain ⟨ad, hj', rfl, h0, h1, h2, ft⟩ := LH.out.1.read j JL.out
                rw [← nth_eq hj'] at h0 h1 h2 ft
                obtain ⟨⟨yk, yu, yw⟩, hy⟩ : ∃ y, y = nth hl j := ⟨_, rfl⟩
                rw [← hy] at h0 h1 h2 ft
                dsimp only at h0 h1 h2
                have HY := Lib.hid hy
                have FY := Lib.hid ft
                clear hj' ft hy jm
                have h0a := keep_alloc h0 (.cells #[.string xk, .int .u64 (xu : Int), .int .u64 (xw : Int)] 25); have h1a := keep_alloc h1 (.cells #[.string xk, .int .u64 (xu : Int), .int .u64 (xw : Int)] 25); have h2a := keep_alloc h2 (.cells #[.string xk, .int .u64 (xu : Int), .int .u64 (xw : Int)] 25); have a2a := keep_alloc a2 (.cells #[.string xk, .int .u64 (xu : Int), .int .u64 (xw : Int)] 25)
                have IA1 := Lib.hid LA.out.1
                have IA2 := Lib.hid LA.out.2
                rw [HA.out] at IA1
                have KWI := Lib.hid (fun (W : World) (hb : Below W2.heap.size W2 W) => without11_any (IA1.out.next hb) (by have := ML.out; have := LT.out; omega) FY.out)
                have WL : Hid ((without al ⟨yk, yu, yw⟩).length = m - 1) := by unfold Hid; rw [HY.out, without_len' KI.out.1 JL.out, HA.out]
                have WM : Hid (∀ y ∈ without al ⟨yk, yu, yw⟩, y ∈ al) := fun y hy => (without_sub al _).subset hy
                have S1 : Hid ((without al ⟨yk, yu, yw⟩).length + [(⟨xk, xu, xw⟩ : It)].length ≤ 1000000) := by unfold Hid; rw [WL.out]; have := ML.out; have := LT.out; simp only [List.length_singleton]; omega
                have KS := Lib.hid (fun (A' : Option Addr) (k' c' : Nat) (W : World) (h : Its W A' k' c' (without al ⟨yk, yu, yw⟩ ++ [(⟨xk, xu, xw⟩ : It)])) => refSort10_any h (by
                    intro y hy
                    rw [List.mem_append, List.mem_singleton] at hy
                    rcases hy with hy | rfl
                    · exact KI.out.1.mayW y (WM.out y hy)
                    · exact (chk_zero.1 (chk_may.2 HX.out)).2) (by rw [← h.len, List.length_append, WL.out]; have := ML.out; have := LT.out; simp only [List.length_singleton]; omega))
                go_upto_region 27 with fail
                go_region_law (first
                  | (refine step_appG (b := W2.heap.size) (v := v1) (l := without al ⟨yk, yu, yw⟩) (m := [(⟨xk, xu, xw⟩ : It)]) rfl (.tmp 124) (.tmp 127) rfl rfl rfl (by (repeat (first | with_reducible exact R1 | with_reducible refine Rw.drew ?_ | refine Rw.alloc ?_ _)); done) (Below.size (B := W2.heap.size) (w := W2) (by (repeat (first | with_reducible exact Below.refl _ _ | with_reducible exact hz1 | with_reducible refine Below.drew ?_ | refine below_al ?_ _)); done)) (by repeat (first | with_reducible exact J1 | with_reducible refine Its.drew ?_ | exact Its.new _ _ FA.out.x _ | refine Its.alloc ?_ _)) (fun e => absurd e (by simp)) S1.out ?_; intro v2 Z2 R2 G2 C2; have hz2 : Below W2.heap.size W2 Z2 := Below.trans (by (repeat (first | with_reducible exact Below.refl _ _ | with_reducible exact hz1 | with_reducible refine Below.drew ?_ | refine below_al ?_ _)); done) C2; obtain ⟨A2, k2, c2, rfl, J2, -⟩ := R2.itn; clear R2 G2 C2)
                  | (go_simp; go_wp2_with (first
                      | (go_at_call 22; (refine (KWI.out _ (by (repeat (first | with_reducible exact Below.refl _ _ | with_reducible refine Below.drew ?_ | refine below_al ?_ _)); done)).mono ?_); rintro e' Z1 ⟨v1, rfl, R1, C1⟩; have hz1 : Below W2.heap.size W2 Z1 := below_step (by (repeat (first | with_reducible exact Below.refl _ _ | with_reducible refine Below.drew ?_ | refine below_al ?_ _)); done) C1; replace R1 := R1.mono (Below.size (B := W2.heap.size) (w := W2) (by (repeat (first | with_reducible exact Below.refl _ _ | with_reducible refine Below.drew ?_ | refine below_al ?_ _)); done)); (first | have f3 := keep_cell hz1 a3 | skip); (first | have f4 := keep_cell hz1 a4 | skip); (first | have f5 := keep_cell hz1 a5 | skip); (first | have J1 := (Its.new _ _ FA.out.x 25).next C1 | have J1 := (Its.new _ _ FA.out.x 25).drew.next C1 | skip))
                      | (go_at_call 24; refine (KS.out _ _ _ _ J2).mono ?_; rintro e' V3 ⟨vs, t, rfl, st, RS, C3⟩; have hz3 : Below W2.heap.size W2 V3 := below_step (by (repeat (first | with_reducible exact Below.refl _ _ | with_reducible exact hz2 | with_reducible refine Below.drew ?_ | refine below_al ?_ _)); done) C3; obtain ⟨A3, k3, c3, rfl, J3, J3c⟩ := RS.itn))))
                all_goals (go_wp2_with fail; go_meet)
                all_goals exact ⟨B, d2, putL hl j ⟨xk, xu, xw⟩, A3, c3, t, rfl, by rw [J3.len], ⟨KI.out.1.put HX.out JL.out (by rw [HY.out] at st; exact st), by rw [putL_len JL.out]; have := KI.out.2; omega⟩, LQ.out.to hz3, J3.lst J3c, below_step BW.out hz3⟩
              · have PE : Hid (putA hl z ⟨xk, xu, xw⟩ = (hl, 3)) := by
                  unfold Hid putA; rw [KI.out.1.right, if_neg (by decide), if_pos (by rw [← HM.out]; omega)]
                rw [PE.out, ← HM.out] at KP
                by_cases z0 : 0 ≤ z
                · have z1 : decide (0 ≤ z) = true := decide_eq_true z0
                  have z2 : ¬ z < (m : Int) := fun h => hz ⟨z0, h⟩
                  have z3 : decide (z < (m : Int)) = false := decide_eq_false z2
                  clear hz
                  go_wp2_with fail
                  refine KP.out.mono ?_
                  rintro e W2 ⟨B, d2, rfl, L2, B1⟩
                  replace LA := Lib.hid (LA.out.to B1)
                  have LQ := Lib.hid L2
                  have BW := Lib.hid (below_step BM.out B1)
                  replace MB := Lib.hid (MB.out.next B1)
                  clear B1 KP a0 a1 a2 a3 a4 a5 BM L2
                  have a2 := MB.out.cell (i := 2) rfl
                  go_wp2_with fail
                  go_meet
                  exact ⟨B, d2, hl, Y, f, al, by rw [HM.out], by rw [HA.out], ⟨KI.out.1, by have := KI.out.2; omega⟩, LQ.out, LA.out, BW.out⟩
                · have z1 : decide (0 ≤ z) = false := decide_eq_false z0
                  clear hz
                  go_wp2_with fail
                  refine KP.out.mono ?_
                  rintro e W2 ⟨B, d2, rfl, L2, B1⟩
                  replace LA := Lib.hid (LA.out.to B1)
                  have LQ := Lib.hid L2
                  have BW := Lib.hid (below_step BM.out B1)
                  replace MB := Lib.hid (MB.out.next B1)
                  clear B1 KP a0 a1 a2 a3 a4 a5 BM L2
                  have a2 := MB.out.cell (i := 2) rfl
                  go_wp2_with fail
                  go_meet
                  exact ⟨B, d2, hl, Y, f, al, by rw [HM.out], by rw [HA.out], ⟨KI.out.1, by have := KI.out.2; omega⟩, LQ.out, LA.out, BW.out⟩
          · go_upto_region 13 with fail
            -- a pop
            have KP := Lib.hid (popK PP.out LH.out (by have := KI.out.2; have := LT.out; omega))
            rw [← HM.out] at KP
            go_wp2_with fail
            refine KP.out.mono ?_
            rintro e W2 ⟨B, d2, y, p, z2, rfl, hp, L2, B1⟩
            obtain ⟨np, hnp⟩ : ∃ np, np = p.length := ⟨_, rfl⟩
            rw [← hnp]
            have HNP := Lib.hid hnp
            obtain ⟨yk, yu, yw⟩ := y
            have HP := Lib.hid hp
            have Y := Box.new W2 #[.string yk, .int .u64 (yu : Int), .int .u64 (yw : Int)] 25
            have b2 := (Below.refl W2.heap.size W2).alloc (Nat.le_refl _) (.cells #[.string yk, .int .u64 (yu : Int), .int .u64 (yw : Int)] 25)
            replace LA := Lib.hid ((LA.out.to B1).to b2)
            have LQ := Lib.hid (L2.to b2)
            have BW := Lib.hid (below_step (below_step BM.out B1) b2)
            obtain ⟨g2, hg2⟩ : ∃ g2, W2.heap.size = g2 := ⟨_, rfl⟩
            rw [hg2] at Y
            have HY := Lib.hid Y
            clear hp B1 b2 KP BM L2 MB a0 Y hnp
            by_cases m0 : m = 0
            · have PE : Hid (z2 = 3 ∧ p = hl) := by
                have := HP.out
                unfold popA at this
                rw [KI.out.1.right, if_neg (by decide), if_pos (List.eq_nil_of_length_eq_zero (by rw [← HM.out]; exact m0))] at this
                injection this with a b; injection b with b d; exact ⟨d.symm, b.symm⟩
              obtain rfl := PE.out.1
              obtain rfl := m0
              have m1 : ¬ (0 : Int) < ((0 : Nat) : Int) := by omega
              clear hg2
              go_wp2_with fail
              go_meet
              exact ⟨B, d2, p, Y, f, al, by rw [HNP.out], by rw [HA.out], by rw [PE.out.2]; exact ⟨KI.out.1, by have := KI.out.2; omega⟩, LQ.out, LA.out, BW.out⟩
            · have JL : Hid (0 < hl.length) := by unfold Hid; rw [← HM.out]; omega
              have PE : Hid (z2 = 0 ∧ p = popL hl ∧ (⟨yk, yu, yw⟩ : It) = nth hl 0) := by
                have := HP.out
                unfold popA at this
                rw [KI.out.1.right, if_neg (by decide), if_neg (fun e => by have := JL.out; rw [e] at this; exact absurd this (by decide))] at this
                injection this with a b; injection b with b d; exact ⟨d.symm, b.symm, a.symm⟩
              obtain rfl := PE.out.1
              have m1 : (0 : Int) < (m : Int) := by omega
              have m2 : decide ((0 : Int) < (m : Int)) = true := decide_eq_true m1
              have FY : Hid ((⟨yk, yu, yw⟩ : It).Fit) := by unfold Hid; rw [PE.out.2.2]; exact LH.out.1.fit _ (nth_mem JL.out)
              have WL : Hid ((without al ⟨yk, yu, yw⟩).length = m - 1) := by unfold Hid; rw [PE.out.2.2, without_len' KI.out.1 JL.out, HA.out]
              have IA1 := Lib.hid LA.out.1
              rw [HA.out] at IA1
              have KWI := Lib.hid (without11_any IA1.out (by have := ML.out; have := LT.out; omega) FY.out)
              obtain ⟨k, hk⟩ : ∃ k, m = k + 1 := ⟨m - 1, by omega⟩
              have mw : IntKind.i64.wrap ((m : Int) - 1) = (k : Int) := by rw [IntKind.wrap_i64]; have := ML.out; have := LT.out; omega
              have k0 : (0 : Int) ≤ k := by omega
              have k1 : (k : Int) < m := by omega
              have KM2 : Hid (k < m) := by unfold Hid; omega
              have HK := Lib.hid hk
              have m4 : 0 < m := by omega
              clear LH hk
              go_upto_region 14 with fail
              (try rw [hg2])
              clear hg2
              generalize W2.alloc (.cells #[.string yk, .int .u64 (yu : Int), .int .u64 (yw : Int)] 25) = W4 at *
              obtain ⟨y0, y1, y2⟩ := HY.out.three
              go_wp2_with fail
              refine KWI.out.mono ?_
              rintro e W3 ⟨v1, rfl, R1, B1⟩
              obtain ⟨A3, n3, c3, rfl, J3, J3c⟩ := R1.itn
              obtain rfl : n3 = k := by rw [← J3.len, WL.out, HK.out]; omega
              replace IA1 := Lib.hid (IA1.out.next B1)
              replace LQ := Lib.hid (LQ.out.to B1)
              replace HY := Lib.hid (HY.out.next B1)
              replace BW := Lib.hid (below_step BW.out B1)
              clear R1 B1 KWI y0 y1 y2 LA
              obtain ⟨y0, y1, y2⟩ := HY.out.three
              obtain ⟨ad, hj', rfl, l0, l1, l2, ft⟩ := IA1.out.read n3 KM2.out
              rw [← nth_eq hj'] at l0 l1 l2 ft
              have CE : Hid (cmpI (⟨yk, yu, yw⟩ : It) (nth al n3) = 0) := by
                unfold Hid
                rw [PE.out.2.2, show n3 = al.length - 1 by rw [HA.out, HK.out]; rfl]
                exact (KI.out.1.top JL.out).2
              generalize nth al n3 = ly at *
              obtain ⟨lk, lu, lw⟩ := ly
              dsimp only at l0 l1 l2
              have KCM := Lib.hid (PC.out ⟨yk, yu, yw⟩ ⟨lk, lu, lw⟩ FY.out ft)
              rw [CE.out] at KCM
              clear ft hj' CE
              go_upto_region 18 with fail
              go_cut [88] (fun sb wx => sb = .bool false ∧ Hid (Below W3.heap.size W3 wx))
              case first =>
                go_region_held3 (fun w' => w'.cell? ⟨g2, 0, none⟩ = some (.string yk) ∧ w'.cell? ⟨g2, 1, none⟩ = some (.int .u64 (yu : Int)) ∧ w'.cell? ⟨g2, 2, none⟩ = some (.int .u64 (yw : Int)) ∧ w'.cell? (ad.add (n3 * 3)) = some (.string lk) ∧ w'.cell? ⟨(ad.add (n3 * 3)).block, (ad.add (n3 * 3)).off + 1, none⟩ = some (.int .u64 (lu : Int)) ∧ w'.cell? ⟨(ad.add (n3 * 3)).block, (ad.add (n3 * 3)).off + 2, none⟩ = some (.int .u64 (lw : Int)))
                  ((refine ⟨?_, ?_, ?_, ?_, ?_, ?_⟩ <;> (repeat (first | with_reducible exact y0 | with_reducible exact y1 | with_reducible exact y2 | with_reducible exact l0 | with_reducible exact l1 | with_reducible exact l2 | with_reducible refine keep_drew ?_ | with_reducible refine keep_cell (by assumption) ?_))))
                  (first | (go_at_call 23; (with_reducible refine (KCM.out _).mono ?_); rintro e Zt ⟨rfl, BZ⟩))
                all_goals
                  have BD := Lib.hid (below_step (Below.refl W3.heap.size W3).drew BZ)
                  go_wp2_with fail
                  go_meet
                  exact ⟨rfl, BD⟩
              case rest =>
                obtain ⟨rfl, BD⟩ := hcut
                generalize wc = W5 at *
                clear y0 y1 y2 l0 l1 l2
                go_wp2_with fail
                go_meet
                exact ⟨B, d2, p, A3, c3, without al ⟨yk, yu, yw⟩, by rw [HNP.out], by rw [J3.len], by rw [PE.out.2.1, PE.out.2.2]; exact ⟨KI.out.1.pop JL.out, by rw [popL_len JL.out]; have := KI.out.2; omega⟩, LQ.out.to BD.out, (J3.lst J3c).to BD.out, below_step BW.out BD.out⟩
        case rest =>
          obtain ⟨X', d', hl', Y', f', al', rfl, rfl, KI', LH', LA', BW⟩ := hcut
          generalize wc = W2 at *
          clear MB a0 LH LA BM
          have hlen : al'.length = hl'.length := KI'.out.1.len.symm
          rw [hlen]
          have KR := Lib.hid (PP.out.right LH'.out (by have := KI'.out.2; have := LT.out; omega))
          rw [KI'.out.1.right] at KR
          obtain ⟨m', hm'⟩ : ∃ m', m' = hl'.length := ⟨_, rfl⟩
          rw [← hm'] at KR ⊢
          have HM' : Hid (al'.length = m' ∧ hl'.length = m') := ⟨by rw [hlen, hm'], hm'.symm⟩
          clear hlen hm'
          go_wp2_with fail
          refine KR.out.mono ?_
          rintro e W3 ⟨rfl, B3⟩
          replace LH' := Lib.hid (LH'.out.to B3)
          replace LA' := Lib.hid (LA'.out.to B3)
          replace BW := Lib.hid (below_step BW.out B3)
          clear B3 KR
          go_wp2_with fail
          go_roundg (gk - 1)
          case measure => have := HQ.out; have := LT.out; omega
          case rel =>
            go_light
            exact ⟨i + 1, X', d', hl', Y', f', al', by go_num, by rw [HM'.out.2], by rw [HM'.out.1], by have := HQ.out; have := LT.out; omega, by have := LT.out; omega, KI', LH', LA', BW⟩
    · have e : decide ((i : Int) < n) = false ∨ (decide ((i : Int) < n) = true ∧ ¬ (i : Int) < 60) := by
        by_cases q : i < n
        · exact .inr ⟨decide_eq_true (by omega), by omega⟩
        · exact .inl (decide_eq_false (by omega))
      rcases e with e | ⟨e, e2⟩
      · have e' : ¬ (i : Int) < n := of_decide_eq_false e
        go_wp2_with fail
        refine (KF.out _).mono ?_
        rintro e W2 ⟨rfl, B2⟩
        go_wp2_with fail
        go_ret
        exact ⟨rfl, below_step BL.out B2⟩
      · have e' : (i : Int) < n := of_decide_eq_true e
        have e3 : decide ((i : Int) < 60) = false := decide_eq_false e2
        go_wp2_with fail
        refine (KF.out _).mono ?_
        rintro e W2 ⟨rfl, B2⟩
        go_wp2_with fail
        go_ret
        exact ⟨rfl, below_step BL.out B2⟩
end Go.Proofs.Ytnkhgkpijfohkaa.heapKeeps
