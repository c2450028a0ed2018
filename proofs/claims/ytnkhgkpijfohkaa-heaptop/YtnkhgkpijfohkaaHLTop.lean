/- The walk of the law HeapTop, over what the six calls answer. -/
import Derived.Test.YtnkhgkpijfohkaaJ07
namespace Go.Proofs.Ytnkhgkpijfohkaa.heapTop
open Go.RowKit
open Go.Proofs.Ytnkhgkpijfohkaa
set_option linter.unusedVariables false
set_option linter.unusedSimpArgs false
set_option maxHeartbeats 8000000
set_option maxRecDepth 100000
theorem walk (P : Prog11) (PC : CmpOk) (AW : ∀ w : World, Calls Try.prog 9 #[] w fun e w' => e = .returned (.bool true) ∧ Below w.heap.size w w') {A : Option Addr} {c : Nat} {l : List It} {w : World} (h : Lst w A c l) :
    Calls Try.prog 7 #[.slice A l.length c] w fun e w' => e = .returned (.bool true) ∧ Below w.heap.size w w' := by
  have KF := Lib.hid AW
  have K0 := Lib.hid (refSmall10_any h.1)
  by_cases hs : smallB l = true
  · have n60 : l.length ≤ 60 := by
      unfold smallB at hs
      rw [Bool.and_eq_true] at hs
      exact of_decide_eq_true hs.1
    rw [hs] at K0
    have K1 : Hid (∀ W : World, Below w.heap.size w W → _) := fun W hb => P.right (A := A) (c := c) ⟨h.1.next hb, h.2⟩ (by omega)
    by_cases hr : rightB l = true
    · rw [hr] at K1
      have I := Lib.hid h.1
      have K2 := Lib.hid (fun (k : ByteArray) (W : World) (hb : Below w.heap.size w W) => P.find (A := A) (c := c) ⟨h.1.next hb, h.2⟩ (by omega) k)
      have FN : Hid (∀ y ∈ l, ∃ f, findA l y.k = some f ∧ f < l.length ∧ (nth l f).k = y.k) := by
        intro y hy
        obtain ⟨f, hf⟩ := findL_mem hy
        obtain ⟨a, b⟩ := findL_some hf
        exact ⟨f, by unfold findA; rw [hr, if_neg (by decide)]; exact hf, a, b⟩
      have TOP : Hid (∀ k, k < l.length → cmpI (nth l k) (nth l 0) ≤ 0) := (rightB_iff.1 hr).2.top (rightB_may hr)
      have PC := Lib.hid PC
      obtain ⟨n, hn⟩ : ∃ n, n = l.length := ⟨_, rfl⟩
      rw [← hn] at K0 K1 K2 I n60 ⊢
      have HN := Lib.hid hn
      clear h hs hr hn P
      go_enter Try.func7, Try.ntmps7
      go_wp2_with fail
      refine K0.out.mono ?_
      rintro e w1 ⟨rfl, B1⟩
      have B1 := Lib.hid B1
      go_wp2_with fail
      refine (K1.out _ B1.out).mono ?_
      rintro e w2 ⟨rfl, B2⟩
      have B2 := Lib.hid (below_step B1.out B2)
      clear K0 K1
      go_wp2_with fail
      go_loopg [18] n (fun q s18 wr => ∃ i : Nat, s18 = .int .i64 (i : Int) ∧ i + q = n ∧ Hid (Below w.heap.size w wr))
      case atStart => exact ⟨0, rfl, by omega, B2⟩
      case round =>
        obtain ⟨i, rfl, hq, BL⟩ := hrel
        have HQ := Lib.hid hq
        by_cases lt : i < n
        · have i1 : (i : Int) < n := by omega
          have i0 : (0 : Int) ≤ i := by omega
          have n0 : (0 : Int) < n := by omega
          have il : i < l.length := by rw [← HN.out]; exact lt
          obtain ⟨ad, hj, rfl, a0, a1, a2, ft⟩ := (I.out.next BL.out).read i lt
          obtain ⟨f, hf, fl, fk⟩ := FN.out (nth l i) (nth_mem il)
          have KD := Lib.hid (K2.out (nth l i).k)
          rw [hf] at KD
          have top := TOP.out i il
          rw [← nth_eq il] at a0 a1 a2 ft
          obtain ⟨y, hy⟩ : ∃ y, y = nth l i := ⟨_, rfl⟩
          rw [← hy] at a0 a1 a2 ft KD top fk
          have D := One.new wr #[.string y.k, .int .u64 (y.u : Int), .int .u64 (y.w : Int)] 25
          have LT := Lib.hid lt
          have FY := Lib.hid ft
          have f0 : (0 : Int) ≤ f := by omega
          have f1 : (f : Int) < n := by rw [HN.out]; omega
          have f2 : ¬ (f : Int) < 0 := by omega
          have f3 : ¬ (n : Int) ≤ f := by omega
          have f4 : decide ((f : Int) < 0) = false := decide_eq_false f2
          have f5 : decide ((f : Int) ≥ n) = false := decide_eq_false f3
          have n0n : 0 < n := by omega
          have f1n : f < n := by omega
          have f3n : ¬ n ≤ f := by omega
          have f6 : decide (n ≤ f) = false := decide_eq_false f3n
          have HFK : Hid (f < l.length ∧ (nth l f).k = y.k) := ⟨fl, fk⟩
          have TP := Lib.hid top
          clear hj ft hf fl fk top hy il lt hq
          go_upto_region 6 with fail
          clear a0 a1 a2
          generalize hV : wr.alloc (.cells #[.string y.k, .int .u64 (y.u : Int), .int .u64 (y.w : Int)] 25) = V at *
          try rw [hV]
          clear hV
          obtain ⟨gy, hgy⟩ : ∃ gy, wr.heap.size = gy := ⟨_, rfl⟩
          rw [hgy] at D
          try rw [hgy]
          clear hgy
          obtain ⟨y0, y1, y2⟩ := D.bg.three
          have BV := Lib.hid (below_step BL.out D.bl)
          go_wp2_with fail
          refine (KD.out _ BV.out).mono ?_
          rintro e W3 ⟨rfl, B3⟩
          have B3h := Lib.hid (below_step BV.out B3)
          replace D := D.next B3
          clear y0 y1 y2 B3 KD
          obtain ⟨y0, y1, y2⟩ := D.bg.three
          obtain ⟨ad', hj0, e, x0, x1, x2, fx⟩ := (I.out.next B3h.out).read 0 (by omega)
          obtain rfl := Option.some.inj e
          obtain ⟨ad', hjf, e, z0, -, -, -⟩ := (I.out.next B3h.out).read f (by omega)
          obtain rfl := Option.some.inj e
          rw [← nth_eq hj0] at x0 x1 x2 fx
          rw [← nth_eq hjf, HFK.out.2] at z0
          rw [show ad.add (0 * 3) = ad from by unfold Addr.add; rfl] at x0 x1 x2
          have K := Lib.hid (PC.out (nth l 0) y fx FY.out)
          have hc : ¬ cmpI (nth l 0) y < 0 := by have := cmpI_anti y (nth l 0); have := TP.out; omega
          generalize cmpI (nth l 0) y = cc at *
          generalize nth l 0 = x at *
          have hc1 : decide (cc < 0) = false := decide_eq_false hc
          clear hj0 hjf fx D
          simp only [Option.getD_some, Option.isSome_some]
          go_upto_region 7 with fail
          go_region_held3 (fun w' => w'.cell? ad = some (.string x.k) ∧ w'.cell? ⟨ad.block, ad.off + 1, none⟩ = some (.int .u64 (x.u : Int)) ∧ w'.cell? ⟨ad.block, ad.off + 2, none⟩ = some (.int .u64 (x.w : Int)) ∧
              w'.cell? ⟨gy, 0, none⟩ = some (.string y.k) ∧ w'.cell? ⟨gy, 1, none⟩ = some (.int .u64 (y.u : Int)) ∧ w'.cell? ⟨gy, 2, none⟩ = some (.int .u64 (y.w : Int)) ∧ w'.cell? (ad.add (f * 3)) = some (.string y.k))
            ((refine ⟨?_, ?_, ?_, ?_, ?_, ?_, ?_⟩ <;> (repeat (first | with_reducible exact x0 | with_reducible exact x1 | with_reducible exact x2 | with_reducible exact y0 | with_reducible exact y1 | with_reducible exact y2 | with_reducible exact z0 | with_reducible refine keep_drew ?_ | with_reducible refine keep_cell (by assumption) ?_))))
            (first | (go_at_call 23; (with_reducible refine (K.out _).mono ?_); rintro e Zt ⟨rfl, BZ⟩))
          have BN := Lib.hid (below_step B3h.out.drew BZ)
          clear x0 x1 x2 y0 y1 y2 z0 K BZ
          go_wp2_with fail
          go_roundg (gk - 1)
          case measure => have := HQ.out; have := LT.out; omega
          case rel =>
            go_light
            exact ⟨i + 1, by go_num, by have := HQ.out; have := LT.out; omega, BN⟩
        · obtain rfl : i = n := by omega
          have i1 : ¬ (i : Int) < i := by omega
          clear lt hq
          go_wp2_with fail
          refine (KF.out _).mono ?_
          rintro e w8 ⟨rfl, B8⟩
          go_wp2_with fail
          go_ret
          exact ⟨rfl, below_step BL.out B8⟩
    · have hr2 : rightB l = false := by simpa using hr
      rw [hr2] at K1
      clear h hs hr hr2 P
      go_enter Try.func7, Try.ntmps7
      go_wp2_with fail
      refine K0.out.mono ?_
      rintro e w1 ⟨rfl, B1⟩
      have B1 := Lib.hid B1
      go_wp2_with fail
      refine (K1.out _ B1.out).mono ?_
      rintro e w2 ⟨rfl, B2⟩
      have B2 := Lib.hid (below_step B1.out B2)
      go_wp2_with fail
      refine (KF.out _).mono ?_
      rintro e w8 ⟨rfl, B8⟩
      go_wp2_with fail
      go_ret
      exact ⟨rfl, below_step B2.out B8⟩
  · have hs2 : smallB l = false := by simpa using hs
    rw [hs2] at K0
    clear h hs hs2 P
    go_enter Try.func7, Try.ntmps7
    go_wp2_with fail
    refine K0.out.mono ?_
    rintro e w1 ⟨rfl, B1⟩
    have B1 := Lib.hid B1
    go_wp2_with fail
    refine (KF.out _).mono ?_
    rintro e w8 ⟨rfl, B8⟩
    go_wp2_with fail
    go_ret
    exact ⟨rfl, below_step B1.out B8⟩
end Go.Proofs.Ytnkhgkpijfohkaa.heapTop
