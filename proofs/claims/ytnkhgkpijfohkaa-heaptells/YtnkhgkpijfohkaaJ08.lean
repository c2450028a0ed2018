/- The program's sink. The program's takeFirst. The program's Right and Find. The program's Find. The program's Put. The program's Pop. -/
import Derived.Test.YtnkhgkpijfohkaaJ07
import Derived.Deep.RegionWith
import Derived.Test.YtnkhgkpijfohkaaJ06
namespace Go.Proofs.Ytnkhgkpijfohkaa
open Go.RowKit
set_option linter.unusedVariables false
set_option linter.unusedSimpArgs false
set_option maxHeartbeats 4000000
set_option maxRecDepth 100000
theorem sinkL_end {s : List It} {i : Nat} (h : s.length ≤ 2 * i + 1) : sinkL s i = s := by rw [sinkL, dif_pos h]
theorem sinkL_stay {s : List It} {i : Nat} (h : ¬ 0 < cmpI (nth s (kid s i)) (nth s i)) : sinkL s i = s := by
  rw [sinkL]
  split
  · rfl
  · rw [if_pos]
    have := cmpI_anti (nth s i) (nth s (kid s i)); omega
theorem sinkL_move {s : List It} {i : Nat} (l : ¬ s.length ≤ 2 * i + 1) (h : 0 < cmpI (nth s (kid s i)) (nth s i)) : sinkL s i = sinkL (swp s i (kid s i)) (kid s i) := by
  rw [sinkL, dif_neg l, if_neg]
  have := cmpI_anti (nth s i) (nth s (kid s i)); omega
theorem sink_any (KC : CmpOk) {ad : Addr} {n c i : Nat} {s : List It} {w : World} (h : Row3 w ad s) (hs : s.length = n) (hi : i ≤ n) (hn : n ≤ 100000) : Calls Try.prog 30 #[.slice (some ad) n c, .int .i64 (i : Int)] w fun e w' => e = .returned (.tuple #[]) ∧ Tr ad (sinkL s i) w w' := by
  have R0 : Hid (∃ cur, sinkL cur i = sinkL s i ∧ cur.length = n ∧ Tr ad cur w w) := ⟨s, rfl, hs, Tr.refl h⟩
  have KB := Lib.hid (fun x y fx fy W => behind_any KC x y fx fy W)
  obtain ⟨tgt, htgt⟩ : ∃ t, t = sinkL s i := ⟨_, rfl⟩
  rw [← htgt] at R0 ⊢
  clear h hs KC htgt
  go_enter Try.func30, Try.ntmps30
  go_wp2_with fail
  go_loopg [1] n (fun q s1 wr => ∃ k : Nat, s1 = .int .i64 (k : Int) ∧ n ≤ q + k ∧ k ≤ n ∧ Hid (∃ cur, sinkL cur k = tgt ∧ cur.length = n ∧ Tr ad cur w wr))
  case atStart => exact ⟨i, rfl, by omega, hi, R0⟩
  case round =>
    obtain ⟨k, rfl, hq, kn, R⟩ := hrel
    clear R0 hi
    obtain ⟨cur, hsame, hlen, T⟩ := R.out
    clear R
    have HQ := Lib.hid hq; have SA := Lib.hid hsame; have HT := Lib.hid T; have HL := Lib.hid hlen
    clear hq hsame T
    obtain ⟨t, ht⟩ : ∃ t, t = 2 * k := ⟨_, rfl⟩
    obtain ⟨o, ho⟩ : ∃ o, o = 2 * k + 1 := ⟨_, rfl⟩
    have e1 : IntKind.i64.wrap (2 * (k : Int)) = (t : Int) := by rw [IntKind.wrap_i64]; omega
    have e2 : IntKind.i64.wrap ((t : Int) + 1) = (o : Int) := by rw [IntKind.wrap_i64]; omega
    by_cases c0 : n ≤ o
    · have z : (n : Int) ≤ o := by omega
      have EN : Hid (tgt = cur) := by
        unfold Hid
        rw [← SA.out]; exact sinkL_end (by omega)
      clear ht ho hlen kn
      go_wp2_with fail
      refine bodyPost_ret (results_none rfl _ _ _) rfl ?_
      exact ⟨rfl, by rw [EN.out]; exact HT.out⟩
    · have z : ¬ (n : Int) ≤ o := by omega
      have on : o < n := by omega
      obtain ⟨m, hm⟩ : ∃ m, m = o + 1 := ⟨_, rfl⟩
      have e4 : IntKind.i64.wrap ((o : Int) + 1) = (m : Int) := by rw [IntKind.wrap_i64]; omega
      obtain ⟨r, hr⟩ : ∃ r, r = kid cur k := ⟨_, rfl⟩
      have KD : Hid (r = if m < n ∧ 0 < cmpI (nth cur m) (nth cur o) then m else o) := by
        unfold Hid
        rw [hr]
        unfold kid
        have a := cmpI_anti (nth cur (2 * k + 1)) (nth cur (2 * k + 2))
        rw [hlen, hm, ho]
        by_cases q : 2 * k + 2 < n ∧ cmpI (nth cur (2 * k + 1)) (nth cur (2 * k + 2)) < 0
        · rw [if_pos q, if_pos ⟨q.1, by show 0 < cmpI (nth cur (2 * k + 2)) (nth cur (2 * k + 1)); omega⟩]
        · rw [if_neg q, if_neg]
          rintro ⟨q1, q2⟩
          exact q ⟨q1, by have q3 : 0 < cmpI (nth cur (2 * k + 2)) (nth cur (2 * k + 1)) := q2; omega⟩
      obtain ⟨u1, u2, u3⟩ := kid_lt (h := cur) (i := k) (by omega)
      rw [← hr] at u1 u2 u3
      have rn : r < n := by omega
      have KL := Lib.hid (show k < cur.length ∧ r < cur.length ∧ k < r from ⟨by omega, u1, u2⟩)
      have NX : Hid (0 < cmpI (nth cur r) (nth cur k) → sinkL (swp cur k r) r = tgt) := by
        intro q
        rw [← SA.out, hr]
        rw [hr] at q
        exact (sinkL_move (by omega) q).symm
      have ST : Hid (cmpI (nth cur r) (nth cur k) ≤ 0 → tgt = cur) := by
        intro q
        rw [← SA.out]
        rw [hr] at q
        exact sinkL_stay (by omega)
      obtain ⟨b, hb⟩ : ∃ b, b = decide (m < n ∧ 0 < cmpI (nth cur m) (nth cur o)) := ⟨_, rfl⟩
      have HB := Lib.hid hb
      have kn' : k < n := by omega
      have p1 : (0 : Int) ≤ o := by omega
      have p2 : (o : Int) < n := by omega
      have p3 : (0 : Int) ≤ k := by omega
      have p4 : (k : Int) < n := by omega
      have p5 : (0 : Int) ≤ r := by omega
      have p6 : (r : Int) < n := by omega
      have HQN := Lib.hid kn'
      clear hr hb u1 u2 u3 ht hm ho kn
      go_upto_region 2 with fail
      go_cut [28] (fun sb wx => sb = .bool b ∧ Hid (Below wr.heap.size wr wx))
      case first =>
        by_cases c1 : m < n
        · have c1' : (m : Int) < n := by omega
          have p7 : (0 : Int) ≤ m := by omega
          have ol : o < cur.length := by omega
          have ml : m < cur.length := by omega
          obtain ⟨x0, x1, x2⟩ := HT.out.row.cell ol
          obtain ⟨y0, y1, y2⟩ := HT.out.row.cell ml
          have K := Lib.hid (KB.out _ _ (HT.out.row.ft ml) (HT.out.row.ft ol))
          have BE : Hid (b = decide (0 < cmpI (nth cur m) (nth cur o))) := by
            unfold Hid
            rw [HB.out]
            simp [c1]
          generalize cmpI (nth cur m) (nth cur o) = cc at *
          generalize nth cur o = x at *
          generalize nth cur m = y at *
          clear ol ml c1
          go_region_held3 (fun w' => w'.cell? (ad.add (o * 3)) = some (.string x.k) ∧ w'.cell? ⟨(ad.add (o * 3)).block, (ad.add (o * 3)).off + 1, none⟩ = some (.int .u64 (x.u : Int)) ∧ w'.cell? ⟨(ad.add (o * 3)).block, (ad.add (o * 3)).off + 2, none⟩ = some (.int .u64 (x.w : Int)) ∧
              w'.cell? (ad.add (m * 3)) = some (.string y.k) ∧ w'.cell? ⟨(ad.add (m * 3)).block, (ad.add (m * 3)).off + 1, none⟩ = some (.int .u64 (y.u : Int)) ∧ w'.cell? ⟨(ad.add (m * 3)).block, (ad.add (m * 3)).off + 2, none⟩ = some (.int .u64 (y.w : Int)))
            ((refine ⟨?_, ?_, ?_, ?_, ?_, ?_⟩ <;> (repeat (first | with_reducible exact x0 | with_reducible exact x1 | with_reducible exact x2 | with_reducible exact y0 | with_reducible exact y1 | with_reducible exact y2 | with_reducible refine keep_drew ?_ | with_reducible refine keep_cell (by assumption) ?_))))
            (first | (go_at_call 32; (with_reducible refine (K.out _).mono ?_); rintro e Zt ⟨rfl, BZ⟩))
          have BW := Lib.hid (below_step (Below.refl wr.heap.size wr).drew BZ)
          clear x0 x1 x2 y0 y1 y2 K BZ
          go_wp2_with fail
          go_meet
          exact ⟨by rw [BE.out], BW⟩
        · have c1' : ¬ (m : Int) < n := by omega
          have c1b : decide ((m : Int) < n) = false := decide_eq_false c1'
          have e : b = false := by rw [HB.out]; exact decide_eq_false (fun h => c1 h.1)
          have BW := Lib.hid (Below.refl wr.heap.size wr).drew
          subst e
          clear c1
          go_region
          go_wp2_with fail
          go_meet
          exact ⟨rfl, BW⟩
      case rest =>
        obtain ⟨rfl, BW⟩ := hcut
        have TW := Lib.hid (HT.out.next BW.out)
        generalize wc = W2 at *
        clear HT BW
        go_upto_if 28 with fail
        go_cut [4] (fun s4 wx => s4 = .int .i64 (r : Int) ∧ wx = W2)
        case first =>
          cases b
          · have e : r = o := by rw [KD.out, if_neg (of_decide_eq_false HB.out.symm)]
            subst e
            go_wp2_with fail
            go_meet
            exact ⟨rfl, rfl⟩
          · have e : r = m := by rw [KD.out, if_pos (of_decide_eq_true HB.out.symm)]
            subst e
            go_wp2_with fail
            go_meet
            exact ⟨rfl, rfl⟩
        case rest =>
          obtain ⟨rfl, hw⟩ := hcut
          have hw := hw.symm
          subst hw
          clear KD HB z e1 e2 e4 p1 p2
          obtain ⟨x0, x1, x2⟩ := TW.out.row.cell KL.out.1
          obtain ⟨y0, y1, y2⟩ := TW.out.row.cell KL.out.2.1
          have K := Lib.hid (KB.out _ _ (TW.out.row.ft KL.out.2.1) (TW.out.row.ft KL.out.1))
          obtain ⟨x, hx⟩ : ∃ x, x = nth cur k := ⟨_, rfl⟩
          obtain ⟨y, hy⟩ : ∃ y, y = nth cur r := ⟨_, rfl⟩
          rw [← hx] at x0 x1 x2 K NX ST
          rw [← hy] at y0 y1 y2 K NX ST
          have HX := Lib.hid hx; have HY := Lib.hid hy
          obtain ⟨b2, hb2⟩ : ∃ b2, b2 = decide (0 < cmpI y x) := ⟨_, rfl⟩
          rw [← hb2] at K
          have HB2 := Lib.hid hb2
          clear hx hy hb2 hlen kn' rn
          go_upto_region 4 with fail
          go_region_held3 (fun w' => w'.cell? (ad.add (k * 3)) = some (.string x.k) ∧ w'.cell? ⟨(ad.add (k * 3)).block, (ad.add (k * 3)).off + 1, none⟩ = some (.int .u64 (x.u : Int)) ∧ w'.cell? ⟨(ad.add (k * 3)).block, (ad.add (k * 3)).off + 2, none⟩ = some (.int .u64 (x.w : Int)) ∧
              w'.cell? (ad.add (r * 3)) = some (.string y.k) ∧ w'.cell? ⟨(ad.add (r * 3)).block, (ad.add (r * 3)).off + 1, none⟩ = some (.int .u64 (y.u : Int)) ∧ w'.cell? ⟨(ad.add (r * 3)).block, (ad.add (r * 3)).off + 2, none⟩ = some (.int .u64 (y.w : Int)))
            ((refine ⟨?_, ?_, ?_, ?_, ?_, ?_⟩ <;> (repeat (first | with_reducible exact x0 | with_reducible exact x1 | with_reducible exact x2 | with_reducible exact y0 | with_reducible exact y1 | with_reducible exact y2 | with_reducible refine keep_drew ?_ | with_reducible refine keep_cell (by assumption) ?_))))
            (first | (go_at_call 32; (with_reducible refine (K.out _).mono ?_); rintro e Zt ⟨rfl, BZ⟩))
          have TZ := Lib.hid (TW.out.drew.next BZ)
          clear x0 x1 x2 y0 y1 y2 K BZ TW
          cases b2
          · have EN := Lib.hid (ST.out (Int.not_lt.1 (of_decide_eq_false HB2.out.symm)))
            go_wp2_with fail
            refine bodyPost_ret (results_none rfl _ _ _) rfl ?_
            exact ⟨rfl, by rw [EN.out]; exact TZ.out⟩
          · have N2 := Lib.hid (NX.out (of_decide_eq_true HB2.out.symm))
            obtain ⟨x0, x1, x2⟩ := TZ.out.row.cell KL.out.1
            obtain ⟨y0, y1, y2⟩ := TZ.out.row.cell KL.out.2.1
            obtain ⟨fx0, fx1, fx2⟩ := TZ.out.row.melts (k * 3)
            obtain ⟨fy0, fy1, fy2⟩ := TZ.out.row.melts (r * 3)
            obtain ⟨s1, s2, s3, s4, s5⟩ := TZ.out.row.stores KL.out.1 KL.out.2.1 (by have := KL.out; omega) x y
            have TS := Lib.hid (TZ.out.swap KL.out.1 KL.out.2.1).drew
            rw [← HX.out] at x0 x1 x2 s1 s2 TS
            rw [← HY.out] at y0 y1 y2 s3 s4 s5 TS
            clear TZ
            go_wp2_with fail
            go_region
            clear s1 s2 s3 s4 s5 x0 x1 x2 y0 y1 y2 fx0 fx1 fx2 fy0 fy1 fy2
            go_wp2_with fail
            go_roundg (gk - 1)
            case measure => have := HQ.out; have := HQN.out; omega
            case rel =>
              go_light
              exact ⟨r, rfl, by have := HQ.out; have := HQN.out; have := KL.out; omega, by have := HL.out; have := KL.out; omega, ⟨_, N2.out, by rw [swp_len]; exact HL.out, TS.out⟩⟩
end Go.Proofs.Ytnkhgkpijfohkaa
namespace Go.Proofs.Ytnkhgkpijfohkaa
open Go.RowKit
set_option linter.unusedVariables false
set_option linter.unusedSimpArgs false
set_option maxHeartbeats 4000000
set_option maxRecDepth 100000
theorem Row3.far {W : World} {ad : Addr} {s : List It} (h : Row3 W ad s) {p : Addr} (hp : ad.block ≠ p.block) (u : Value) : Row3 (W.setCell p u) ad s := by
  obtain ⟨cs, t, e, hc⟩ := h.own
  exact ⟨⟨cs, t, (Below.heap_setCell W p u ad.block hp).trans e, hc⟩, h.el, h.fit⟩
theorem Tr.far {w W : World} {ad : Addr} {s : List It} (h : Tr ad s w W) {p : Addr} (hp : ad.block ≠ p.block) (hg : w.heap.size ≤ p.block) (u : Value) : Tr ad s w (W.setCell p u) :=
  ⟨h.row.far hp u, h.os, h.tape, h.output, by simpa [World.setCell] using h.size, fun k hk hn => (Below.heap_setCell W p u k (by omega)).trans (h.block k hk hn)⟩
theorem Tr.far3 {w W : World} {ad : Addr} {s : List It} (h : Tr ad s w W) {g : Nat} (hp : ad.block ≠ g) (hg : w.heap.size ≤ g) (a b c : Value) : Tr ad s w (((W.setCell ⟨g, 0, none⟩ a).setCell ⟨g, 1, none⟩ b).setCell ⟨g, 2, none⟩ c) :=
  ((h.far (p := ⟨g, 0, none⟩) hp hg a).far (p := ⟨g, 1, none⟩) hp hg b).far (p := ⟨g, 2, none⟩) hp hg c
theorem Box.tr {W W' : World} {g : Nat} {cs : Array Value} {ad : Addr} {s : List It} (h : Box W g cs) (t : Tr ad s W W') (hg : g ≠ ad.block) : Box W' g cs := by
  have l := h.lt
  obtain ⟨ty, e⟩ := h
  exact ⟨ty, (t.block g l hg).trans e⟩
theorem popL_eq {s : List It} {m : Nat} (h : s.length = m + 1) : popL s = sinkL ((s.set 0 (nth s m)).take m) 0 := by
  unfold popL
  split
  · have : m = 0 := by omega
    subst this
    rw [List.take_zero, sinkL_end (by simp)]
  · rw [show s.length - 1 = m by omega, List.take_set]
theorem takeFirst_any (KC : CmpOk) {ad : Addr} {n m c : Nat} {s : List It} {w : World} (h : Row3 w ad s) (hs : s.length = n) (hm : n = m + 1) (hc : n ≤ c) (hn : n ≤ 100000) : Calls Try.prog 29 #[.slice (some ad) n c] w fun e w' => e = .returned (.tuple #[itv (nth s 0), .slice (some ad) m c]) ∧ Tr ad (popL s) w w' := by
  have D := Duo.new w #[.string ⟨#[]⟩, .int .u64 0, .int .u64 0] #[.string (nth s 0).k, .int .u64 ((nth s 0).u : Int), .int .u64 ((nth s 0).w : Int)] 25 25
  have KS := Lib.hid (fun (W : World) (t : List It) (h : Row3 W ad t) (ht : t.length = m) => sink_any (c := c) (i := 0) KC h ht (by omega) (by omega))
  have hb := h.lt
  have h0 : 0 < s.length := by omega
  have hml : m < s.length := by omega
  obtain ⟨y0, y1, y2⟩ := (h.next ((Below.refl w.heap.size w).alloc (Nat.le_refl _) (.cells #[.string ⟨#[]⟩, .int .u64 0, .int .u64 0] 25))).cell h0
  have T0 := Lib.hid ((Tr.refl h).next D.bl)
  obtain ⟨x0, x1, x2⟩ := T0.out.row.cell hml
  obtain ⟨z0, z1, z2⟩ := T0.out.row.cell h0
  obtain ⟨s1, s2⟩ := T0.out.row.store1 h0 (nth s m)
  obtain ⟨f0, f1, f2⟩ := T0.out.row.melts (0 * 3)
  have T1 := Lib.hid (T0.out.put h0 (h.ft hml))
  have PE := Lib.hid (popL_eq (s := s) (m := m) (by omega))
  have SL : Hid (((s.set 0 (nth s m)).take m).length = m) := by unfold Hid; rw [List.length_take, List.length_set]; omega
  have A0 : ad.add (0 * 3) = ad := by unfold Addr.add; rfl
  rw [A0] at y0 y1 y2 z0 z1 z2 s1 s2 f0 f1 f2 T1
  have e1 : IntKind.i64.wrap ((n : Int) - 1) = (m : Int) := by rw [IntKind.wrap_i64]; omega
  have n0 : (0 : Int) < n := by omega
  have n0n : 0 < n := by omega
  have p0 : (0 : Int) ≤ m := by omega
  have p1 : (m : Int) < n := by omega
  have p2 : (m : Int) ≤ c := by omega
  obtain ⟨g, hg⟩ : ∃ g, w.heap.size = g := ⟨_, rfl⟩
  rw [hg] at D
  have hne : ad.block ≠ g := by omega
  have hne1 : ad.block ≠ g + 1 := by omega
  have BG : Hid (Box (put3 ((w.alloc (.cells #[.string ⟨#[]⟩, .int .u64 0, .int .u64 0] 25)).alloc (.cells #[.string (nth s 0).k, .int .u64 ((nth s 0).u : Int), .int .u64 ((nth s 0).w : Int)] 25)) ad (nth s m)) g #[.string ⟨#[]⟩, .int .u64 0, .int .u64 0]) := by
    obtain ⟨t, ht⟩ := D.bg
    exact ⟨t, (block_put3 _ _ (Ne.symm hne)).trans ht⟩
  have BR : Hid (Box (put3 ((w.alloc (.cells #[.string ⟨#[]⟩, .int .u64 0, .int .u64 0] 25)).alloc (.cells #[.string (nth s 0).k, .int .u64 ((nth s 0).u : Int), .int .u64 ((nth s 0).w : Int)] 25)) ad (nth s m)) (g + 1) #[.string (nth s 0).k, .int .u64 ((nth s 0).u : Int), .int .u64 ((nth s 0).w : Int)]) := by
    obtain ⟨t, ht⟩ := D.br
    exact ⟨t, (block_put3 _ _ (Ne.symm hne1)).trans ht⟩
  have HG := Lib.hid (show w.heap.size ≤ g from by omega)
  have HNE := Lib.hid hne; have HNE1 := Lib.hid hne1
  clear h hs hm hb h0 hml A0 T0 D KC hne hne1
  generalize nth s 0 = y at *
  generalize nth s m = x at *
  go_enter Try.func29, Try.ntmps29
  go_wp2_with fail
  clear x0 x1 x2 y0 y1 y2 z0 z1 z2 s1 s2 f0 f1 f2
  unfold put3 at T1 BG BR
  generalize ((((w.alloc (.cells #[.string ⟨#[]⟩, .int .u64 0, .int .u64 0] 25)).alloc (.cells #[.string y.k, .int .u64 (y.u : Int), .int .u64 (y.w : Int)] 25)).setCell ad (.string x.k)).setCell ⟨ad.block, ad.off + 1, none⟩ (.int .u64 (x.u : Int))).setCell ⟨ad.block, ad.off + 2, none⟩ (.int .u64 (x.w : Int)) = W1 at *
  refine (KS.out W1 _ (T1.out.row.front m) SL.out).mono ?_
  rintro e W2 ⟨rfl, T2⟩
  replace BG := Lib.hid (BG.out.tr T2 (Ne.symm HNE.out))
  replace BR := Lib.hid (BR.out.tr T2 (Ne.symm HNE1.out))
  have TT := Lib.hid ((T1.out.front m).trans T2)
  rw [← PE.out] at TT
  clear T1 T2 KS PE SL hg
  generalize g + 1 = r at *
  obtain ⟨r0, r1, r2⟩ := BR.out.three
  obtain ⟨g0, g1, g2⟩ := BG.out.three
  have m0 := BG.out.melt 0; have m1 := BG.out.melt 1; have m2 := BG.out.melt 2
  have TF := Lib.hid (TT.out.far3 HNE.out HG.out (.string y.k) (.int .u64 (y.u : Int)) (.int .u64 (y.w : Int)))
  have B3 := ((BG.out.set 0 (.string y.k)).set 1 (.int .u64 (y.u : Int))).set 2 (.int .u64 (y.w : Int))
  go_wp2_with fail
  generalize ((W2.setCell ⟨g, 0, none⟩ (.string y.k)).setCell ⟨g, 1, none⟩ (.int .u64 (y.u : Int))).setCell ⟨g, 2, none⟩ (.int .u64 (y.w : Int)) = W9 at *
  obtain ⟨z0, z1, z2⟩ := Box.three B3
  refine bodyPost_ret (v := .tuple #[itv y, .slice (some ad) m c]) (by simp [results, Try.results29, go_sem, z0, z1, z2, itv]) rfl ?_
  exact ⟨rfl, TF.out⟩
end Go.Proofs.Ytnkhgkpijfohkaa
namespace Go.Proofs.Ytnkhgkpijfohkaa
open Go.RowKit
set_option linter.unusedVariables false
set_option linter.unusedSimpArgs false
set_option maxHeartbeats 4000000
set_option maxRecDepth 100000
/-- The first i stand right, and may be. -/
def GoodTo (l : List It) (i : Nat) : Prop := (∀ k, k < i → mayB (nth l k) = true) ∧ ∀ k, 0 < k → k < i → cmpI (nth l k) (nth l ((k - 1) / 2)) ≤ 0
theorem GoodTo.step {l : List It} {i : Nat} (h : GoodTo l i) (a : mayB (nth l i) = true) (b : 0 < i → cmpI (nth l i) (nth l ((i - 1) / 2)) ≤ 0) : GoodTo l (i + 1) := by
  refine ⟨fun k hk => ?_, fun k h0 hk => ?_⟩
  · by_cases e : k = i
    · subst e; exact a
    · exact h.1 k (by omega)
  · by_cases e : k = i
    · subst e; exact b h0
    · exact h.2 k h0 (by omega)
theorem GoodTo.all {l : List It} {n : Nat} (hl : l.length = n) (h : GoodTo l n) : rightB l = true := by
  refine rightB_iff.2 ⟨List.all_eq_true.2 fun x hx => ?_, fun k k0 kl => h.2 k k0 (by omega)⟩
  obtain ⟨k, hk, rfl⟩ := List.getElem_of_mem hx
  rw [← nth_eq hk]
  exact h.1 k (by omega)
theorem right_no_may {l : List It} {i : Nat} (hi : i < l.length) (h : mayB (nth l i) = false) : rightB l = false := by
  cases q : rightB l with
  | false => rfl
  | true =>
    have := List.all_eq_true.1 (rightB_iff.1 q).1 _ (nth_mem hi)
    rw [h] at this
    exact absurd this (by decide)
theorem right_no_top {l : List It} {i : Nat} (h0 : 0 < i) (hi : i < l.length) (h : 0 < cmpI (nth l i) (nth l ((i - 1) / 2))) : rightB l = false := by
  cases q : rightB l with
  | false => rfl
  | true =>
    have := (rightB_iff.1 q).2 i h0 hi
    omega
theorem heapRight_any (KC : CmpOk) {A : Option Addr} {n c : Nat} {l : List It} {w : World} (h : Its w A n c l) (hn : n ≤ 100000) : Calls Try.prog 15 #[.slice A n c] w fun e w' => e = .returned (.bool (rightB l)) ∧ Below w.heap.size w w' := by
  have H := Lib.hid h
  have HL := Lib.hid h.len
  have KB := Lib.hid (fun x y fx fy W => behind_any KC x y fx fy W)
  have KK := Lib.hid (fun (x : It) W => rankCheck_any x W)
  clear h KC
  go_enter Try.func15, Try.ntmps15
  go_wp2_with fail
  go_loopg [7] n (fun q s7 wr => ∃ i : Nat, s7 = .int .i64 (i : Int) ∧ i + q = n ∧ Hid (GoodTo l i) ∧ Hid (Below w.heap.size w wr))
  case atStart => exact ⟨0, rfl, by omega, ⟨fun k hk => by omega, fun k _ hk => by omega⟩, Below.refl _ _⟩
  case round =>
    obtain ⟨i, rfl, hq, GT, BL⟩ := hrel
    have HQ := Lib.hid hq
    by_cases lt : i < n
    · have i1 : (i : Int) < n := by omega
      have i0 : (0 : Int) ≤ i := by omega
      obtain ⟨ad, hj, rfl, a0, a1, a2, ft⟩ := (H.out.next BL.out).read i lt
      rw [← nth_eq hj] at a0 a1 a2 ft
      have HIL := Lib.hid hj
      have LT := Lib.hid lt
      obtain ⟨b, hb⟩ : ∃ b, b = (!mayB (nth l i) || (decide (0 < i) && decide (0 < cmpI (nth l i) (nth l ((i - 1) / 2))))) := ⟨_, rfl⟩
      have HB := Lib.hid hb
      have M := One.new wr #[.string (nth l i).k, .int .u64 ((nth l i).u : Int), .int .u64 ((nth l i).w : Int)] 25
      obtain ⟨g, hg⟩ : ∃ g, wr.heap.size = g := ⟨_, rfl⟩
      rw [hg] at M
      have FT := Lib.hid ft
      obtain ⟨x, hx⟩ : ∃ x, x = nth l i := ⟨_, rfl⟩
      rw [← hx] at a0 a1 a2 M FT HB
      have HX := Lib.hid hx
      clear hq lt hj hb ft hx
      go_upto_region 4 with fail
      clear a0 a1 a2 hg
      generalize wr.alloc (.cells #[.string x.k, .int .u64 (x.u : Int), .int .u64 (x.w : Int)] 25) = W0 at *
      have BM := Lib.hid (below_step BL.out M.bl)
      obtain ⟨x0, x1, x2⟩ := M.bg.three
      go_cut [27] (fun sb wx => sb = .bool b ∧ Hid (Below w.heap.size w wx))
      case first =>
        have K1 := Lib.hid (KK.out x)
        cases hm : mayB x
        · have hc : chk x ≠ 0 := fun q => by rw [chk_may.1 q] at hm; exact absurd hm (by decide)
          obtain ⟨cc, hcc⟩ : ∃ cc, cc = chk x := ⟨_, rfl⟩
          rw [← hcc] at K1 hc
          have hb : (cc != 0) = true := by simpa using hc
          have hb2 : (cc == 0) = false := by simpa using hc
          have hb3 : decide (cc = 0) = false := by simpa using hc
          have e : b = true := by rw [HB.out, hm]; rfl
          subst e
          clear hcc
          refine wp_region_any (by kernel_rfl) ?_
          (try (change wpAny _ _ _ _ _ _ _ (World.drew _)))
          refine wpAny_ready (rs := [0]) (by kernel_rfl) (by simp) (AllReady.cons rfl (fun K hK => ?_) AllReady.nil)
          go_simp
          (refine hK _ _ ?_; clear hK K)
          refine wpAny_ready (rs := [1]) (by kernel_rfl) (by simp) (AllReady.cons rfl (fun K hK => ?_) AllReady.nil)
          go_simp
          go_wp2_with (first | (go_at_call 17; (with_reducible refine (K1.out _).mono ?_); rintro e Zt ⟨rfl, BZ⟩))
          refine wpAny_ready (rs := [2]) (by kernel_rfl) (by simp) (AllReady.cons rfl (fun K hK => ?_) AllReady.nil)
          go_simp
          (refine hK _ _ ?_; clear hK K)
          refine wpAny_ready (rs := [3]) (by kernel_rfl) (by simp) (AllReady.cons rfl (fun K hK => ?_) AllReady.nil)
          go_simp
          (refine hK _ _ ?_; clear hK K)
          refine wpAny_take (i := 4) (v := undef) rfl (by kernel_rfl) (by kernel_rfl) (by kernel_rfl) (fun _ _ _ h => h) (Or.inr ⟨by first | kernel_rfl | rfl, rfl⟩) ?_; simp only [Act.put, List.setIfInBounds_toArray, List.set_cons_zero, List.set_cons_succ]
          refine wpAny_take (i := 5) (v := undef) rfl (by kernel_rfl) (by kernel_rfl) (by kernel_rfl) (fun _ _ _ h => h) (Or.inr ⟨by first | kernel_rfl | rfl, rfl⟩) ?_; simp only [Act.put, List.setIfInBounds_toArray, List.set_cons_zero, List.set_cons_succ]
          refine wpAny_take (i := 6) (v := undef) rfl (by kernel_rfl) (by kernel_rfl) (by kernel_rfl) (fun _ _ _ h => h) (Or.inr ⟨by first | kernel_rfl | rfl, rfl⟩) ?_; simp only [Act.put, List.setIfInBounds_toArray, List.set_cons_zero, List.set_cons_succ]
          refine wpAny_take (i := 7) (v := undef) rfl (by kernel_rfl) (by kernel_rfl) (by kernel_rfl) (fun _ _ _ h => h) (Or.inr ⟨by first | kernel_rfl | rfl, rfl⟩) ?_; simp only [Act.put, List.setIfInBounds_toArray, List.set_cons_zero, List.set_cons_succ]
          refine wpAny_take (i := 8) (v := undef) rfl (by kernel_rfl) (by kernel_rfl) (by kernel_rfl) (fun _ _ _ h => h) (Or.inr ⟨by first | kernel_rfl | rfl, rfl⟩) ?_; simp only [Act.put, List.setIfInBounds_toArray, List.set_cons_zero, List.set_cons_succ]
          refine wpAny_take (i := 9) (v := undef) rfl (by kernel_rfl) (by kernel_rfl) (by kernel_rfl) (fun _ _ _ h => h) (Or.inr ⟨by first | kernel_rfl | rfl, rfl⟩) ?_; simp only [Act.put, List.setIfInBounds_toArray, List.set_cons_zero, List.set_cons_succ]
          refine wpAny_take (i := 10) (v := undef) rfl (by kernel_rfl) (by kernel_rfl) (by kernel_rfl) (fun _ _ _ h => h) (Or.inr ⟨by first | kernel_rfl | rfl, rfl⟩) ?_; simp only [Act.put, List.setIfInBounds_toArray, List.set_cons_zero, List.set_cons_succ]
          refine wpAny_take (i := 11) (v := undef) rfl (by kernel_rfl) (by kernel_rfl) (by kernel_rfl) (fun _ _ _ h => h) (Or.inr ⟨by first | kernel_rfl | rfl, rfl⟩) ?_; simp only [Act.put, List.setIfInBounds_toArray, List.set_cons_zero, List.set_cons_succ]
          refine wpAny_take (i := 12) (v := undef) rfl (by kernel_rfl) (by kernel_rfl) (by kernel_rfl) (fun _ _ _ h => h) (Or.inr ⟨by first | kernel_rfl | rfl, rfl⟩) ?_; simp only [Act.put, List.setIfInBounds_toArray, List.set_cons_zero, List.set_cons_succ]
          refine wpAny_take (i := 13) (v := undef) rfl (by kernel_rfl) (by kernel_rfl) (by kernel_rfl) (fun _ _ _ h => h) (Or.inr ⟨by first | kernel_rfl | rfl, rfl⟩) ?_; simp only [Act.put, List.setIfInBounds_toArray, List.set_cons_zero, List.set_cons_succ]
          refine wpAny_take (i := 14) (v := undef) rfl (by kernel_rfl) (by kernel_rfl) (by kernel_rfl) (fun _ _ _ h => h) (Or.inr ⟨by first | kernel_rfl | rfl, rfl⟩) ?_; simp only [Act.put, List.setIfInBounds_toArray, List.set_cons_zero, List.set_cons_succ]
          refine wpAny_ready (rs := [15]) (by kernel_rfl) (by simp) (AllReady.cons rfl (fun K hK => ?_) AllReady.nil)
          go_simp
          (refine hK _ _ ?_; clear hK K)
          refine wpAny_done (by kernel_rfl) ?_ _
          have BW := Lib.hid (below_step BM.out.drew BZ)
          clear x0 x1 x2 BZ K1
          go_wp2_with fail
          go_meet
          exact ⟨rfl, BW⟩
        · have hc : chk x = 0 := chk_may.2 hm
          rw [hc] at K1
          by_cases i00 : i = 0
          · subst i00
            have e : b = false := by rw [HB.out, hm]; rfl
            have k1 : ¬ (0 : Int) < ((0 : Nat) : Int) := by decide
            have k2 : decide ((0 : Int) < ((0 : Nat) : Int)) = false := rfl
            have k3 : decide (((0 : Nat) : Int) > (0 : Int)) = false := rfl
            have k4 : decide ((0 : Int) > (0 : Int)) = false := rfl
            subst e
            clear hc
            refine wp_region_any (by kernel_rfl) ?_
            (try (change wpAny _ _ _ _ _ _ _ (World.drew _)))
            refine wpAny_ready (rs := [0]) (by kernel_rfl) (by simp) (AllReady.cons rfl (fun K hK => ?_) AllReady.nil)
            go_simp
            (refine hK _ _ ?_; clear hK K)
            refine wpAny_ready (rs := [1]) (by kernel_rfl) (by simp) (AllReady.cons rfl (fun K hK => ?_) AllReady.nil)
            go_simp
            go_wp2_with (first | (go_at_call 17; (with_reducible refine (K1.out _).mono ?_); rintro e Zt ⟨rfl, BZ⟩))
            refine wpAny_ready (rs := [2]) (by kernel_rfl) (by simp) (AllReady.cons rfl (fun K hK => ?_) AllReady.nil)
            go_simp
            (refine hK _ _ ?_; clear hK K)
            refine wpAny_ready (rs := [3]) (by kernel_rfl) (by simp) (AllReady.cons rfl (fun K hK => ?_) AllReady.nil)
            go_simp
            (refine hK _ _ ?_; clear hK K)
            refine wpAny_ready (rs := [4]) (by kernel_rfl) (by simp) (AllReady.cons rfl (fun K hK => ?_) AllReady.nil)
            go_simp
            (refine hK _ _ ?_; clear hK K)
            refine wpAny_ready (rs := [5]) (by kernel_rfl) (by simp) (AllReady.cons rfl (fun K hK => ?_) AllReady.nil)
            go_simp
            (refine hK _ _ ?_; clear hK K)
            refine wpAny_ready (rs := [6]) (by kernel_rfl) (by simp) (AllReady.cons rfl (fun K hK => ?_) AllReady.nil)
            go_simp
            (refine hK _ _ ?_; clear hK K)
            refine wpAny_take (i := 7) (v := undef) rfl (by kernel_rfl) (by kernel_rfl) (by kernel_rfl) (fun _ _ _ h => h) (Or.inr ⟨by first | kernel_rfl | rfl, rfl⟩) ?_; simp only [Act.put, List.setIfInBounds_toArray, List.set_cons_zero, List.set_cons_succ]
            refine wpAny_take (i := 8) (v := undef) rfl (by kernel_rfl) (by kernel_rfl) (by kernel_rfl) (fun _ _ _ h => h) (Or.inr ⟨by first | kernel_rfl | rfl, rfl⟩) ?_; simp only [Act.put, List.setIfInBounds_toArray, List.set_cons_zero, List.set_cons_succ]
            refine wpAny_take (i := 9) (v := undef) rfl (by kernel_rfl) (by kernel_rfl) (by kernel_rfl) (fun _ _ _ h => h) (Or.inr ⟨by first | kernel_rfl | rfl, rfl⟩) ?_; simp only [Act.put, List.setIfInBounds_toArray, List.set_cons_zero, List.set_cons_succ]
            refine wpAny_take (i := 10) (v := undef) rfl (by kernel_rfl) (by kernel_rfl) (by kernel_rfl) (fun _ _ _ h => h) (Or.inr ⟨by first | kernel_rfl | rfl, rfl⟩) ?_; simp only [Act.put, List.setIfInBounds_toArray, List.set_cons_zero, List.set_cons_succ]
            refine wpAny_take (i := 11) (v := undef) rfl (by kernel_rfl) (by kernel_rfl) (by kernel_rfl) (fun _ _ _ h => h) (Or.inr ⟨by first | kernel_rfl | rfl, rfl⟩) ?_; simp only [Act.put, List.setIfInBounds_toArray, List.set_cons_zero, List.set_cons_succ]
            refine wpAny_take (i := 12) (v := undef) rfl (by kernel_rfl) (by kernel_rfl) (by kernel_rfl) (fun _ _ _ h => h) (Or.inr ⟨by first | kernel_rfl | rfl, rfl⟩) ?_; simp only [Act.put, List.setIfInBounds_toArray, List.set_cons_zero, List.set_cons_succ]
            refine wpAny_take (i := 13) (v := undef) rfl (by kernel_rfl) (by kernel_rfl) (by kernel_rfl) (fun _ _ _ h => h) (Or.inr ⟨by first | kernel_rfl | rfl, rfl⟩) ?_; simp only [Act.put, List.setIfInBounds_toArray, List.set_cons_zero, List.set_cons_succ]
            refine wpAny_ready (rs := [14]) (by kernel_rfl) (by simp) (AllReady.cons rfl (fun K hK => ?_) AllReady.nil)
            go_simp
            (refine hK _ _ ?_; clear hK K)
            refine wpAny_ready (rs := [15]) (by kernel_rfl) (by simp) (AllReady.cons rfl (fun K hK => ?_) AllReady.nil)
            go_simp
            (refine hK _ _ ?_; clear hK K)
            refine wpAny_done (by kernel_rfl) ?_ _
            have BW := Lib.hid (below_step BM.out.drew BZ)
            clear x0 x1 x2 BZ K1
            go_wp2_with fail
            go_meet
            exact ⟨rfl, BW⟩
          · have iN : 0 < i := by omega
            have i2 : (0 : Int) < i := by omega
            have i3 : decide ((0 : Int) < i) = true := decide_eq_true i2
            have i3n : decide (0 < i) = true := decide_eq_true iN
            obtain ⟨j, hj⟩ : ∃ j, j = (i - 1) / 2 := ⟨_, rfl⟩
            rw [← hj] at HB
            have KA := Lib.hid (fun W => above_any iN hj (by have := LT.out; omega) W)
            have jn : j < n := by have := LT.out; omega
            obtain ⟨ad', hj', e6, y0, y1, y2, fy⟩ := (H.out.next BM.out).read j jn
            obtain rfl := Option.some.inj e6
            rw [← nth_eq hj'] at y0 y1 y2 fy
            have K2 := Lib.hid (KB.out _ _ FT.out (by exact fy))
            generalize nth l j = y at *
            have p3 : (0 : Int) ≤ j := by omega
            have p4 : (j : Int) < n := by omega
            have e : Hid (b = decide (0 < cmpI x y)) := by unfold Hid; rw [HB.out, hm]; simp [iN]
            generalize decide (0 < cmpI x y) = b' at *
            obtain rfl := e.out
            clear hc hj' fy jn hj i00
            go_region_held3 (fun w' => w'.cell? ⟨g, 0, none⟩ = some (.string x.k) ∧ w'.cell? ⟨g, 1, none⟩ = some (.int .u64 (x.u : Int)) ∧ w'.cell? ⟨g, 2, none⟩ = some (.int .u64 (x.w : Int)) ∧
                w'.cell? (ad.add (j * 3)) = some (.string y.k) ∧ w'.cell? ⟨(ad.add (j * 3)).block, (ad.add (j * 3)).off + 1, none⟩ = some (.int .u64 (y.u : Int)) ∧ w'.cell? ⟨(ad.add (j * 3)).block, (ad.add (j * 3)).off + 2, none⟩ = some (.int .u64 (y.w : Int)))
              ((refine ⟨?_, ?_, ?_, ?_, ?_, ?_⟩ <;> (repeat (first | with_reducible exact x0 | with_reducible exact x1 | with_reducible exact x2 | with_reducible exact y0 | with_reducible exact y1 | with_reducible exact y2 | with_reducible refine keep_drew ?_ | with_reducible refine keep_cell (by assumption) ?_))))
              (first
                | (go_at_call 17; (with_reducible refine (K1.out _).mono ?_); rintro e Zt ⟨rfl, BZ1⟩)
                | (go_at_call 33; (with_reducible refine (KA.out _).mono ?_); rintro e Zs ⟨rfl, rfl⟩)
                | (go_at_call 32; (with_reducible refine (K2.out _).mono ?_); rintro e Zu ⟨rfl, BZ2⟩))
            all_goals
              have BW := Lib.hid (below_step (below_step BM.out.drew BZ1) BZ2)
              go_wp2_with fail
              go_meet
              exact ⟨rfl, BW⟩
      case rest =>
        obtain ⟨rfl, BW⟩ := hcut
        generalize wc = W2 at *
        clear x0 x1 x2 M BM KB KK
        cases b
        · have NX : Hid (GoodTo l (i + 1)) := by
            have q := HB.out.symm
            rw [Bool.or_eq_false_iff, Bool.and_eq_false_iff] at q
            refine GT.out.step (by rw [← HX.out]; simpa using q.1) fun h0 => ?_
            rcases q.2 with q2 | q2
            · exact absurd h0 (of_decide_eq_false q2)
            · have := of_decide_eq_false q2
              rw [← HX.out]; omega
          go_wp2_with fail
          go_roundg (gk - 1)
          case measure => have := HQ.out; have := LT.out; omega
          case rel =>
            go_light
            exact ⟨i + 1, by go_num, by have := HQ.out; have := LT.out; omega, NX, BW⟩
        · have EA : Hid (rightB l = false) := by
            have q := HB.out.symm
            rw [Bool.or_eq_true, Bool.and_eq_true] at q
            rcases q with q | ⟨q1, q2⟩
            · exact right_no_may HIL.out (by rw [← HX.out]; simpa using q)
            · exact right_no_top (of_decide_eq_true q1) HIL.out (by rw [← HX.out]; exact of_decide_eq_true q2)
          go_wp2_with fail
          go_ret
          exact ⟨by rw [EA.out]; rfl, BW.out⟩
    · obtain rfl : i = n := by omega
      have i1 : ¬ (i : Int) < i := by omega
      have EA := Lib.hid (GT.out.all HL.out)
      clear hq lt
      go_wp2_with fail
      go_ret
      exact ⟨by rw [EA.out]; rfl, BL.out⟩
end Go.Proofs.Ytnkhgkpijfohkaa
namespace Go.Proofs.Ytnkhgkpijfohkaa
open Go.RowKit
set_option linter.unusedVariables false
set_option linter.unusedSimpArgs false
set_option maxHeartbeats 4000000
set_option maxRecDepth 100000
theorem heapFind_any (KC : CmpOk) {A : Option Addr} {n c : Nat} {l : List It} {w : World} (h : Its w A n c l) (hn : n ≤ 100000) (k : ByteArray) : Calls Try.prog 13 #[.slice A n c, .string k] w fun e w' => e = .returned (.tuple #[.int .i64 (((findA l k).getD 0 : Nat) : Int), .bool (findA l k).isSome]) ∧ Below w.heap.size w w' := by
  have KR := Lib.hid (heapRight_any KC h hn)
  have H := Lib.hid h
  have HL := Lib.hid h.len
  clear h KC
  obtain ⟨fa, hfa⟩ : ∃ fa, fa = findA l k := ⟨_, rfl⟩
  rw [← hfa]
  cases hr : rightB l
  · have e : Hid (fa = none) := by unfold Hid; rw [hfa]; unfold findA; rw [if_pos hr]
    rw [hr] at KR
    clear hfa hr
    go_enter Try.func13, Try.ntmps13
    go_wp2_with fail
    refine KR.out.mono ?_
    rintro e w1 ⟨rfl, B1⟩
    have BL := Lib.hid B1
    clear B1 KR
    go_wp2_with fail
    refine bodyPost_ret (v := .tuple #[.int .i64 0, .bool false]) (by simp [results, Try.results13, go_sem]) rfl ?_
    exact ⟨by rw [e.out]; rfl, BL.out⟩
  · have e : Hid (fa = findL l k) := by unfold Hid; rw [hfa]; unfold findA; rw [if_neg (by rw [hr]; decide)]
    rw [hr] at KR
    clear hfa hr
    go_enter Try.func13, Try.ntmps13
    go_wp2_with fail
    refine KR.out.mono ?_
    rintro e' w1 ⟨rfl, B1⟩
    have BL0 := Lib.hid B1
    clear B1 KR
    go_wp2_with fail
    go_loopg [13] n (fun q s13 wr => ∃ i : Nat, s13 = .int .i64 (i : Int) ∧ i + q = n ∧ Hid (fa = (findL (l.drop i) k).map (· + i)) ∧ Hid (Below w.heap.size w wr))
    case atStart => exact ⟨0, rfl, by omega, by unfold Hid; rw [e.out, List.drop_zero]; cases findL l k <;> simp, BL0⟩
    case round =>
      obtain ⟨i, rfl, hq, FA, BL⟩ := hrel
      clear BL0 e
      have HQ := Lib.hid hq
      by_cases lt : i < n
      · have i1 : (i : Int) < n := by omega
        have i0 : (0 : Int) ≤ i := by omega
        obtain ⟨ad, hj, rfl, a0, a1, a2, ft⟩ := (H.out.next BL.out).read i lt
        have DR : Hid (l.drop i = l[i] :: l.drop (i + 1)) := List.drop_eq_getElem_cons hj
        generalize l[i] = y at *
        have LT := Lib.hid lt
        have M := One.new wr #[.string y.k, .int .u64 (y.u : Int), .int .u64 (y.w : Int)] 25
        obtain ⟨g, hg⟩ : ∃ g, wr.heap.size = g := ⟨_, rfl⟩
        rw [hg] at M
        clear ft hq lt hj
        go_upto_region 6 with fail
        clear a0 a1 a2 hg
        generalize wr.alloc (.cells #[.string y.k, .int .u64 (y.u : Int), .int .u64 (y.w : Int)] 25) = W0 at *
        have BM := Lib.hid (below_step BL.out M.bl)
        obtain ⟨x0, x1, x2⟩ := M.bg.three
        clear M
        by_cases ek : y.k = k
        · have hb : (y.k.toList == k.toList) = true := by rw [ek]; simp
          have EN : Hid (fa = some i) := by
            unfold Hid
            rw [FA.out, DR.out, findL, if_pos ek]; simp
          clear ek
          go_wp2_with fail
          refine bodyPost_ret (v := .tuple #[.int .i64 (i : Int), .bool true]) (by simp [results, Try.results13, go_sem]) rfl ?_
          exact ⟨by rw [EN.out]; rfl, BM.out⟩
        · have hb : (y.k.toList == k.toList) = false := by
            cases q : (y.k.toList == k.toList) with
            | false => rfl
            | true => exact absurd (text_eq (by simpa using q)) ek
          have NX : Hid (fa = (findL (l.drop (i + 1)) k).map (· + (i + 1))) := by
            unfold Hid
            rw [FA.out, DR.out, findL, if_neg ek, Option.map_map]
            cases findL (l.drop (i + 1)) k with
            | none => rfl
            | some j => simp; omega
          clear ek
          go_wp2_with fail
          go_roundg (gk - 1)
          case measure => have := HQ.out; have := LT.out; omega
          case rel =>
            go_light
            exact ⟨i + 1, by go_num, by have := HQ.out; have := LT.out; omega, NX, BM⟩
      · obtain rfl : i = n := by omega
        have i1 : ¬ (i : Int) < i := by omega
        have EN : Hid (fa = none) := by
          unfold Hid
          rw [FA.out, List.drop_eq_nil_of_le (by rw [HL.out]; exact Nat.le_refl _)]; rfl
        clear hq lt
        go_wp2_with fail
        refine bodyPost_ret (v := .tuple #[.int .i64 0, .bool false]) (by simp [results, Try.results13, go_sem]) rfl ?_
        exact ⟨by rw [EN.out]; rfl, BL.out⟩
end Go.Proofs.Ytnkhgkpijfohkaa
namespace Go.Proofs.Ytnkhgkpijfohkaa
open Go.RowKit
set_option linter.unusedVariables false
set_option linter.unusedSimpArgs false
set_option maxHeartbeats 4000000
set_option maxRecDepth 100000
theorem Lst.next {W W' : World} {A : Option Addr} {c : Nat} {l : List It} (h : Lst W A c l) (hb : Below W.heap.size W W') : Lst W' A c l := ⟨h.1.next hb, h.2⟩
theorem liftL_stay {s : List It} {i : Nat} (c : ¬ (0 < i ∧ 0 < cmpI (nth s i) (nth s ((i - 1) / 2)))) : liftL s i = s := ((LiftInv.start s i).stop c).1
/-- What a call answers with: a list and an error. -/
def RetLE (l : List It) (x : Int) (w : World) (e : Ending) (w' : World) : Prop := ∃ B d, e = .returned (.tuple #[.slice B l.length d, .int .i64 x]) ∧ Lst w' B d l ∧ Below w.heap.size w w'
theorem put_cond {l : List It} {k : Nat} {x : It} (hk : k < l.length) : (0 < k ∧ 0 < cmpI (nth (l.set k x) k) (nth (l.set k x) ((k - 1) / 2))) ↔ (0 < k ∧ 0 < cmpI x (nth l ((k - 1) / 2))) := by
  by_cases h : 0 < k
  · rw [nth_set hk, nth_set hk, if_pos rfl, if_neg (by omega)]
  · constructor <;> (rintro ⟨a, _⟩; exact absurd a h)
theorem heapPut_any (KC : CmpOk) {A : Option Addr} {c : Nat} {l : List It} {w : World} (h : Lst w A c l) (hn : l.length ≤ 100000) (i : Int) (x : It) (hi : -9223372036854775808 ≤ i ∧ i ≤ 9223372036854775807) (fx : x.Fit) : Calls Try.prog 12 #[.slice A l.length c, .int .i64 i, itv x] w fun e w' => RetLE (putA l i x).1 (putA l i x).2 w e w' := by
  have KR := Lib.hid (fun (W : World) (hb : Below w.heap.size w W) => heapRight_any KC (h.1.next hb) hn)
  have KK := Lib.hid (fun W => rankCheck_any x W)
  have KN := Lib.hid (fun (W : World) (hb : Below w.heap.size w W) => cloneI_any (h.1.next hb) hn)
  have H := Lib.hid h
  have FX := Lib.hid fx
  obtain ⟨n, hln⟩ : ∃ n, n = l.length := ⟨_, rfl⟩
  have HL := Lib.hid hln
  obtain ⟨p, hp⟩ : ∃ p, p = putA l i x := ⟨_, rfl⟩
  rw [← hp]
  rw [← hln] at hn KR KN ⊢
  have PA : Hid (p = if rightB l = false then (l, 1) else if i < 0 ∨ (n : Int) ≤ i then (l, 3) else if chk x ≠ 0 then (l, chk x) else (putL l i.toNat x, 0)) := by unfold Hid; rw [hp, hln]; unfold putA; rfl
  clear h fx hp hln
  have M := One.new w #[.string x.k, .int .u64 (x.u : Int), .int .u64 (x.w : Int)] 25
  obtain ⟨g, hg⟩ : ∃ g, w.heap.size = g := ⟨_, rfl⟩
  rw [hg] at M
  have OUT : Hid (∀ (z : Int) (W : World), p = (l, z) → Below w.heap.size w W → RetLE p.1 p.2 w (.returned (.tuple #[.slice A n c, .int .i64 z])) W) := by
    intro z W hp hb
    rw [hp]
    exact ⟨A, c, by rw [HL.out], H.out.next hb, hb⟩
  cases hr : rightB l
  · have e : Hid (p = (l, 1)) := by unfold Hid; rw [PA.out, if_pos hr]
    rw [hr] at KR
    clear hr PA
    obtain ⟨xk, xu, xw⟩ := x
    go_enter Try.func12, Try.ntmps12
    go_wp2_with fail
    refine (KR.out _ M.bl).mono ?_
    rintro e' W1 ⟨rfl, B1⟩
    have BL := Lib.hid (M.next B1).bl
    clear B1 KR
    go_wp2_with fail
    refine bodyPost_ret (v := .tuple #[.slice A n c, .int .i64 1]) (by simp [results, Try.results12, go_sem]) rfl ?_
    exact OUT.out _ _ e.out BL.out
  · rw [hr] at KR PA
    by_cases hneg : i < 0
    · have e : Hid (p = (l, 3)) := by unfold Hid; rw [PA.out, if_neg (by decide), if_pos (.inl hneg)]
      clear hr PA
      obtain ⟨xk, xu, xw⟩ := x
      go_enter Try.func12, Try.ntmps12
      go_wp2_with fail
      refine (KR.out _ M.bl).mono ?_
      rintro e' W1 ⟨rfl, B1⟩
      have BL := Lib.hid (M.next B1).bl
      have hb : decide (i < 0) = true := decide_eq_true hneg
      clear B1 KR
      go_wp2_with fail
      refine bodyPost_ret (v := .tuple #[.slice A n c, .int .i64 3]) (by simp [results, Try.results12, go_sem]) rfl ?_
      exact OUT.out _ _ e.out BL.out
    · by_cases hbig : (n : Int) ≤ i
      · have e : Hid (p = (l, 3)) := by unfold Hid; rw [PA.out, if_neg (by decide), if_pos (.inr hbig)]
        clear hr PA
        obtain ⟨xk, xu, xw⟩ := x
        go_enter Try.func12, Try.ntmps12
        go_wp2_with fail
        refine (KR.out _ M.bl).mono ?_
        rintro e' W1 ⟨rfl, B1⟩
        have BL := Lib.hid (M.next B1).bl
        have hb : decide (i < 0) = false := decide_eq_false (by omega)
        have hb2 : decide (i ≥ (n : Int)) = true := decide_eq_true hbig
        have hb3 : decide ((n : Int) ≤ i) = true := decide_eq_true hbig
        clear B1 KR
        go_wp2_with fail
        refine bodyPost_ret (v := .tuple #[.slice A n c, .int .i64 3]) (by simp [results, Try.results12, go_sem]) rfl ?_
        exact OUT.out _ _ e.out BL.out
      · obtain ⟨k, rfl⟩ : ∃ k : Nat, i = (k : Int) := ⟨i.toNat, by omega⟩
        have PB : Hid (p = if chk x ≠ 0 then (l, chk x) else (putL l k x, 0)) := by unfold Hid; rw [PA.out, if_neg (by decide), if_neg (by omega)]; rfl
        have k0 : (0 : Int) ≤ k := by omega
        have k1 : (k : Int) < n := by omega
        have kn : k < n := by omega
        have hb : decide ((k : Int) < 0) = false := decide_eq_false hneg
        have hb2 : decide ((k : Int) ≥ (n : Int)) = false := decide_eq_false hbig
        have hb3 : decide ((n : Int) ≤ (k : Int)) = false := decide_eq_false hbig
        have hb4 : decide (n ≤ k) = false := decide_eq_false (by omega)
        have hb5 : ¬ (k : Int) < 0 := hneg
        have hb6 : ¬ (n : Int) ≤ (k : Int) := hbig
        obtain ⟨cc, hcc⟩ : ∃ cc, cc = chk x := ⟨_, rfl⟩
        rw [← hcc] at PB KK
        clear hr PA hcc hi hneg hbig
        obtain ⟨xk, xu, xw⟩ := x
        obtain ⟨x0, x1, x2⟩ := M.bg.three
        by_cases hc : cc = 0
        · subst hc
          have PC : Hid (p = (putL l k ⟨xk, xu, xw⟩, 0)) := by unfold Hid; rw [PB.out, if_neg (by decide)]
          have KC := Lib.hid KC
          clear OUT PB
          go_enter Try.func12, Try.ntmps12
          go_wp2_with fail
          refine (KR.out _ M.bl).mono ?_
          rintro e' W1 ⟨rfl, B1⟩
          replace M := M.next B1
          clear B1 KR x0 x1 x2
          obtain ⟨x0, x1, x2⟩ := M.bg.three
          go_wp2_with fail
          refine (KK.out _).mono ?_
          rintro e' W2 ⟨rfl, B1⟩
          replace M := M.next B1
          clear B1 KK x0 x1 x2
          go_wp2_with fail
          refine (KN.out _ M.bl).mono ?_
          rintro e' W3 ⟨v, rfl, R, B1⟩
          have hs2 := M.bl.size
          have gl := M.bg.lt
          rcases R.row with ⟨_, hl⟩ | ⟨go, cap, rfl, hgo, h1, h2, R3⟩
          · exfalso; have := HL.out; rw [hl] at this; simp at this; omega
          · have M := M.next B1
            rw [← HL.out] at h1 ⊢
            have HG := Lib.hid (show w.heap.size ≤ go ∧ n ≤ cap ∧ cap ≤ 9223372036854775807 from ⟨by omega, h1, h2⟩)
            have kl : k < l.length := by rw [← HL.out]; exact kn
            have hne : g ≠ go := by omega
            obtain ⟨ao, hao⟩ : ∃ a, a = (⟨go, 0, none⟩ : Addr) := ⟨_, rfl⟩
            rw [← hao] at R3 ⊢
            obtain ⟨x0, x1, x2⟩ := M.bg.three
            obtain ⟨f0, f1, f2⟩ := R3.melts (k * 3)
            obtain ⟨z0, z1, z2⟩ := R3.cell kl
            obtain ⟨s1, s2⟩ := R3.store1 kl ⟨xk, xu, xw⟩
            have T := Lib.hid ((Tr.refl R3).put kl FX.out)
            have BB := Lib.hid M.bl
            have HA := Lib.hid hao
            have KLEN := Lib.hid kl
            clear M KN R R3 hgo h1 h2 B1 gl hao hne hs2 kl
            go_wp2_with fail
            clear x0 x1 x2 f0 f1 f2 z0 z1 z2 s1 s2
            unfold put3 at T
            dsimp only at T
            generalize ((W3.setCell (ao.add (k * 3)) (.string xk)).setCell ⟨(ao.add (k * 3)).block, (ao.add (k * 3)).off + 1, none⟩ (.int .u64 (xu : Int))).setCell ⟨(ao.add (k * 3)).block, (ao.add (k * 3)).off + 2, none⟩ (.int .u64 (xw : Int)) = W4 at *
            have KLI := lift_any (c := cap) (i := k) (n := n) KC.out T.out.row (by rw [List.length_set]; exact HL.out.symm) kn (by have := hn; omega)
            rw [put_cond KLEN.out] at KLI
            refine KLI.mono ?_
            rintro e' W5 ⟨j, rfl, hj, T5⟩
            have TT := Lib.hid (T.out.trans T5)
            clear KLI
            by_cases ej : j = k
            · have nc := hj.1 ej
              subst ej
              have ST : Hid (liftL (l.set j ⟨xk, xu, xw⟩) j = l.set j ⟨xk, xu, xw⟩) := liftL_stay (by rw [put_cond KLEN.out]; exact nc)
              rw [ST.out] at TT
              have PD : Hid (p = (sinkL (l.set j ⟨xk, xu, xw⟩) j, 0)) := by unfold Hid; rw [PC.out]; unfold putL; rw [if_neg nc]
              have KSI := Lib.hid (sink_any (c := cap) (i := j) (n := n) KC.out TT.out.row (by rw [List.length_set]; exact HL.out.symm) (by omega) (by have := hn; omega))
              have ee : ((j : Int) == (j : Int)) = true := by simp
              clear T5 T hj nc PC
              go_wp2_with fail
              refine KSI.out.mono ?_
              rintro e' W6 ⟨rfl, T6⟩
              have TU := Lib.hid (TT.out.trans T6)
              clear T6 KSI TT
              go_wp2_with fail
              refine bodyPost_ret (v := .tuple #[.slice (some ao) n cap, .int .i64 0]) (by simp [results, Try.results12, go_sem]) rfl ?_
              have hlen : (sinkL (l.set j ⟨xk, xu, xw⟩) j).length = n := by rw [sinkL_len (by rw [List.length_set]; exact KLEN.out), List.length_set, ← HL.out]
              rw [PD.out]
              exact ⟨some ao, cap, by rw [hlen], ⟨TU.out.row.its rfl (by rw [hlen]; exact HG.out.2.1) HG.out.2.2, fun e => absurd e (by simp)⟩, BB.out.trans (TU.out.below (by rw [HA.out]; exact HG.out.1) BB.out.size)⟩
            · have nc := fun q => ej (hj.2 q)
              have nd := Classical.not_not.1 nc
              have PD : Hid (p = (liftL (l.set k ⟨xk, xu, xw⟩) k, 0)) := by unfold Hid; rw [PC.out]; unfold putL; rw [if_pos nd]
              have ee : ((j : Int) == (k : Int)) = false := by
                simp only [beq_eq_false_iff_ne, ne_eq, Int.natCast_inj]; exact ej
              clear T5 T hj nc nd PC
              go_wp2_with fail
              refine bodyPost_ret (v := .tuple #[.slice (some ao) n cap, .int .i64 0]) (by simp [results, Try.results12, go_sem]) rfl ?_
              have hlen : (liftL (l.set k ⟨xk, xu, xw⟩) k).length = n := by rw [liftL_len (by rw [List.length_set]; exact KLEN.out), List.length_set, ← HL.out]
              rw [PD.out]
              exact ⟨some ao, cap, by rw [hlen], ⟨TT.out.row.its rfl (by rw [hlen]; exact HG.out.2.1) HG.out.2.2, fun e => absurd e (by simp)⟩, BB.out.trans (TT.out.below (by rw [HA.out]; exact HG.out.1) BB.out.size)⟩
        · have PC : Hid (p = (l, cc)) := by unfold Hid; rw [PB.out, if_pos hc]
          have hd : (cc != 0) = true := by simpa using hc
          have hd2 : (cc == 0) = false := by simpa using hc
          clear PB hc
          go_enter Try.func12, Try.ntmps12
          go_wp2_with fail
          refine (KR.out _ M.bl).mono ?_
          rintro e' W1 ⟨rfl, B1⟩
          replace M := M.next B1
          clear B1 KR x0 x1 x2
          obtain ⟨x0, x1, x2⟩ := M.bg.three
          go_wp2_with fail
          refine (KK.out _).mono ?_
          rintro e' W2 ⟨rfl, B1⟩
          have BL := Lib.hid (M.next B1).bl
          clear B1 KK x0 x1 x2
          go_wp2_with fail
          refine bodyPost_ret (v := .tuple #[.slice A n c, .int .i64 cc]) (by simp [results, Try.results12, go_sem]) rfl ?_
          exact OUT.out _ _ PC.out BL.out
end Go.Proofs.Ytnkhgkpijfohkaa
namespace Go.Proofs.Ytnkhgkpijfohkaa
open Go.RowKit
set_option linter.unusedVariables false
set_option linter.unusedSimpArgs false
set_option maxHeartbeats 4000000
set_option maxRecDepth 100000
/-- An item, a list and an error. -/
def RetILE (y : It) (l : List It) (x : Int) (w : World) (e : Ending) (w' : World) : Prop := ∃ B d, e = .returned (.tuple #[itv y, .slice B l.length d, .int .i64 x]) ∧ Lst w' B d l ∧ Below w.heap.size w w'
theorem heapPop_any (KC : CmpOk) {A : Option Addr} {c : Nat} {l : List It} {w : World} (h : Lst w A c l) (hn : l.length ≤ 100000) : Calls Try.prog 11 #[.slice A l.length c] w fun e w' => RetILE (popA l).1 (popA l).2.1 (popA l).2.2 w e w' := by
  have KR := Lib.hid (fun (W : World) (hb : Below w.heap.size w W) => heapRight_any KC (h.1.next hb) hn)
  have KN := Lib.hid (fun (W : World) (hb : Below w.heap.size w W) => cloneI_any (h.1.next hb) hn)
  have H := Lib.hid h
  obtain ⟨n, hln⟩ : ∃ n, n = l.length := ⟨_, rfl⟩
  have HL := Lib.hid hln
  obtain ⟨p, hp⟩ : ∃ p, p = popA l := ⟨_, rfl⟩
  rw [← hp]
  rw [← hln] at hn KR KN ⊢
  have PA : Hid (p = if rightB l = false then (itz, l, 1) else if l = [] then (itz, l, 3) else (nth l 0, popL l, 0)) := by unfold Hid; rw [hp]; unfold popA; rfl
  clear h hp hln
  have M := One.new w #[.string ⟨#[]⟩, .int .u64 0, .int .u64 0] 25
  obtain ⟨g, hg⟩ : ∃ g, w.heap.size = g := ⟨_, rfl⟩
  rw [hg] at M
  have OUT : Hid (∀ (z : Int) (W : World), p = (itz, l, z) → Below w.heap.size w W → RetILE p.1 p.2.1 p.2.2 w (.returned (.tuple #[itv itz, .slice A n c, .int .i64 z])) W) := by
    intro z W hp hb
    rw [hp]
    exact ⟨A, c, by rw [HL.out], H.out.next hb, hb⟩
  cases hr : rightB l
  · have e : Hid (p = (itz, l, 1)) := by unfold Hid; rw [PA.out, if_pos hr]
    rw [hr] at KR
    clear hr PA
    go_enter Try.func11, Try.ntmps11
    go_wp2_with fail
    refine (KR.out _ M.bl).mono ?_
    rintro e' W1 ⟨rfl, B1⟩
    replace M := M.next B1
    obtain ⟨x0, x1, x2⟩ := M.bg.three
    have m0 := M.bg.melt 0; have m1 := M.bg.melt 1; have m2 := M.bg.melt 2
    have S3 := ((M.set 0 (.string ⟨#[]⟩)).set 1 (.int .u64 0)).set 2 (.int .u64 0)
    clear B1 KR
    go_wp2_with fail
    generalize ((W1.setCell ⟨g, 0, none⟩ (.string ⟨#[]⟩)).setCell ⟨g, 1, none⟩ (.int .u64 0)).setCell ⟨g, 2, none⟩ (.int .u64 0) = W9 at *
    obtain ⟨z0, z1, z2⟩ := Box.three S3.bg
    refine bodyPost_ret (v := .tuple #[itv itz, .slice A n c, .int .i64 1]) (by simp [results, Try.results11, go_sem, z0, z1, z2, itv]) rfl ?_
    exact OUT.out _ _ e.out S3.bl
  · rw [hr] at KR PA
    by_cases h0 : n = 0
    · have e : Hid (p = (itz, l, 3)) := by unfold Hid; rw [PA.out, if_neg (by decide), if_pos (List.eq_nil_of_length_eq_zero (by rw [← HL.out]; exact h0))]
      subst h0
      have hb : ((0 : Int) == 0) = true := rfl
      clear hr PA
      go_enter Try.func11, Try.ntmps11
      go_wp2_with fail
      refine (KR.out _ M.bl).mono ?_
      rintro e' W1 ⟨rfl, B1⟩
      replace M := M.next B1
      obtain ⟨x0, x1, x2⟩ := M.bg.three
      have m0 := M.bg.melt 0; have m1 := M.bg.melt 1; have m2 := M.bg.melt 2
      have S3 := ((M.set 0 (.string ⟨#[]⟩)).set 1 (.int .u64 0)).set 2 (.int .u64 0)
      clear B1 KR
      go_wp2_with fail
      generalize ((W1.setCell ⟨g, 0, none⟩ (.string ⟨#[]⟩)).setCell ⟨g, 1, none⟩ (.int .u64 0)).setCell ⟨g, 2, none⟩ (.int .u64 0) = W9 at *
      obtain ⟨z0, z1, z2⟩ := Box.three S3.bg
      refine bodyPost_ret (v := .tuple #[itv itz, .slice A 0 c, .int .i64 3]) (by simp [results, Try.results11, go_sem, z0, z1, z2, itv]) rfl ?_
      exact OUT.out _ _ e.out S3.bl
    · obtain ⟨m, hm⟩ : ∃ m, n = m + 1 := ⟨n - 1, by omega⟩
      have PC : Hid (p = (nth l 0, popL l, 0)) := by
        unfold Hid
        rw [PA.out, if_neg (by decide), if_neg]
        rintro rfl
        have := HL.out
        simp at this
        omega
      have hb : ((n : Int) == 0) = false := by simpa using h0
      have n0 : ¬ (n : Int) = 0 := by omega
      have KC := Lib.hid KC
      have HM := Lib.hid hm
      clear hr PA OUT h0 hm
      go_enter Try.func11, Try.ntmps11
      go_wp2_with fail
      refine (KR.out _ M.bl).mono ?_
      rintro e' W1 ⟨rfl, B1⟩
      replace M := M.next B1
      clear B1 KR
      go_wp2_with fail
      refine (KN.out _ M.bl).mono ?_
      rintro e' W3 ⟨v, rfl, R, B1⟩
      have hs2 := M.bl.size
      have gl := M.bg.lt
      rcases R.row with ⟨_, hl⟩ | ⟨go, cap, rfl, hgo, h1, h2, R3⟩
      · exfalso; have a := HL.out; have b := HM.out; rw [hl] at a; simp at a; omega
      · have M := M.next B1
        rw [← HL.out] at h1 ⊢
        have HG := Lib.hid (show w.heap.size ≤ go ∧ n ≤ cap ∧ cap ≤ 9223372036854775807 ∧ g ≠ go from ⟨by omega, h1, h2, by omega⟩)
        obtain ⟨ao, hao⟩ : ∃ a, a = (⟨go, 0, none⟩ : Addr) := ⟨_, rfl⟩
        rw [← hao] at R3 ⊢
        have KT := Lib.hid (takeFirst_any (c := cap) KC.out R3 HL.out.symm HM.out h1 hn)
        have HA := Lib.hid hao
        clear KN R R3 hgo h1 h2 B1 gl hao hs2
        go_wp2_with fail
        refine KT.out.mono ?_
        rintro e' W4 ⟨rfl, T⟩
        have BG : Box W4 g _ := M.bg.tr T (by rw [HA.out]; exact HG.out.2.2.2)
        have BW := Lib.hid (M.bl.trans (T.below (by rw [HA.out]; exact HG.out.1) M.bl.size))
        have TT := Lib.hid T
        clear KT M T
        generalize nth l 0 = y at *
        have MM := One.new W4 #[.string y.k, .int .u64 (y.u : Int), .int .u64 (y.w : Int)] 25
        obtain ⟨r, hr⟩ : ∃ r, W4.heap.size = r := ⟨_, rfl⟩
        rw [hr] at MM
        have gr : g ≠ r := by have := BG.lt; omega
        have BG5 := (BG.next MM.bl)
        have RW := Lib.hid (TT.out.row.next MM.bl)
        have BL5 := Lib.hid (below_step BW.out MM.bl)
        go_upto_region 6 with fail
        clear hr
        generalize W4.alloc (.cells #[.string y.k, .int .u64 (y.u : Int), .int .u64 (y.w : Int)] 25) = W5 at *
        obtain ⟨x0, x1, x2⟩ := BG5.three
        have m0 := BG5.melt 0; have m1 := BG5.melt 1; have m2 := BG5.melt 2
        obtain ⟨y0, y1, y2⟩ := MM.bg.three
        have S3 := ((BG5.set 0 (.string y.k)).set 1 (.int .u64 (y.u : Int))).set 2 (.int .u64 (y.w : Int))
        have RF := Lib.hid (((RW.out.far (p := ⟨g, 0, none⟩) (by rw [HA.out]; exact Ne.symm HG.out.2.2.2) (.string y.k)).far (p := ⟨g, 1, none⟩) (by rw [HA.out]; exact Ne.symm HG.out.2.2.2) (.int .u64 (y.u : Int))).far (p := ⟨g, 2, none⟩) (by rw [HA.out]; exact Ne.symm HG.out.2.2.2) (.int .u64 (y.w : Int)))
        have HGG : Hid (w.heap.size ≤ g) := by unfold Hid; omega
        have BF := Lib.hid (below_set (below_set (below_set BL5.out (p := ⟨g, 0, none⟩) HGG.out (.string y.k)) (p := ⟨g, 1, none⟩) HGG.out (.int .u64 (y.u : Int))) (p := ⟨g, 2, none⟩) HGG.out (.int .u64 (y.w : Int)))
        clear BG BG5 MM RW BL5 hg
        go_wp2_with fail
        generalize ((W5.setCell ⟨g, 0, none⟩ (.string y.k)).setCell ⟨g, 1, none⟩ (.int .u64 (y.u : Int))).setCell ⟨g, 2, none⟩ (.int .u64 (y.w : Int)) = W9 at *
        obtain ⟨z0, z1, z2⟩ := Box.three S3
        refine bodyPost_ret (v := .tuple #[itv y, .slice (some ao) m cap, .int .i64 0]) (by simp [results, Try.results11, go_sem, z0, z1, z2, itv]) rfl ?_
        have hlen : (popL l).length = m := by rw [popL_len (by have := HL.out; have := HM.out; omega)]; have := HL.out; have := HM.out; omega
        rw [PC.out]
        exact ⟨some ao, cap, by rw [hlen], ⟨RF.out.its rfl (by rw [hlen]; have := HM.out; have := HG.out; omega) HG.out.2.2.1, fun e => absurd e (by simp)⟩, BF.out⟩
end Go.Proofs.Ytnkhgkpijfohkaa
