/- The document's Sink. The document's Put. The document's Pop. The document's Right. The laws' without: items, but one that is equal. What the laws ask of the six calls of heap, as one bundle: to be shown of the code that landed. The program's above and behind; the front of a row. The program's lift. -/
import Derived.Test.YtnkhgkpijfohkaaJ06
import Derived.Deep.CutBlock
import Derived.Deep.RegionWith
namespace Go.Proofs.Ytnkhgkpijfohkaa
open Go.RowKit
set_option linter.unusedVariables false
set_option linter.unusedSimpArgs false
set_option maxHeartbeats 4000000
set_option maxRecDepth 100000
theorem sink11_any : ∀ (d i : Nat) {ad : Addr} {n c : Nat} {l : List It} {w : World}, Its w (some ad) n c l → i < n → n - i ≤ d → n ≤ 100000 → Calls Try.prog 36 #[.slice (some ad) n c, .int .i64 (i : Int)] w fun e w' => SomeL n (sinkL l i) w e w' := by
  intro d
  induction d with
  | zero => intro i ad n c l w h hi hd; omega
  | succ d ih =>
    intro i ad n c l w h hi hd hn
    have I := Lib.hid h
    have HL := Lib.hid h.len
    have hl := h.len
    have KC := Lib.hid (fun x y (hx : It.Fit x) (hy : It.Fit y) W => refCmp10_any x y hx hy W)
    obtain ⟨t, ht⟩ : ∃ t, t = 2 * i := ⟨_, rfl⟩
    obtain ⟨k, hk⟩ : ∃ k, k = 2 * i + 1 := ⟨_, rfl⟩
    have e1 : IntKind.i64.wrap (2 * (i : Int)) = (t : Int) := by rw [IntKind.wrap_i64]; omega
    have e2 : IntKind.i64.wrap ((t : Int) + 1) = (k : Int) := by rw [IntKind.wrap_i64]; omega
    have HK := Lib.hid hk
    have HT := Lib.hid ht
    by_cases c0 : n ≤ k
    · have E : Hid (sinkL l i = l) := by
        unfold Hid sinkL
        rw [dif_pos (by omega)]
      have z : (n : Int) ≤ k := by omega
      clear h ih hl hk ht
      go_enter Try.func36, Try.ntmps36
      go_wp2_with fail
      go_ret
      refine ⟨ad, c, rfl, ?_, Below.refl _ _⟩
      rw [E.out]
      exact I.out
    · have z : ¬ (n : Int) ≤ k := by omega
      have kn : k < n := by omega
      have E : Hid (sinkL l i = if 0 ≤ cmpI (nth l i) (nth l (kid l i)) then l else sinkL (swp l i (kid l i)) (kid l i)) := by
        unfold Hid
        rw [sinkL, dif_neg (by omega)]
      obtain ⟨m, hm⟩ : ∃ m, m = k + 1 := ⟨_, rfl⟩
      have e4 : IntKind.i64.wrap ((k : Int) + 1) = (m : Int) := by rw [IntKind.wrap_i64]; omega
      have KD : Hid (kid l i = if m < n ∧ cmpI (nth l k) (nth l m) < 0 then m else k) := by
        unfold Hid kid
        rw [hl, hm, hk]
      obtain ⟨u1, u2, u3⟩ := kid_lt (h := l) (i := i) (by omega)
      obtain ⟨r, hr⟩ : ∃ r, r = kid l i := ⟨_, rfl⟩
      rw [← hr] at KD E u1 u2 u3
      have rn : r < n := by omega
      have HI := Lib.hid (show i < n ∧ i < r ∧ r < n ∧ n - r ≤ d from ⟨hi, u2, rn, by omega⟩)
      obtain ⟨b, hb⟩ : ∃ b, b = decide (m < n ∧ cmpI (nth l k) (nth l m) < 0) := ⟨_, rfl⟩
      have HB := Lib.hid hb
      have IH := Lib.hid (fun (ad' : Addr) (c' : Nat) (W : World) (hh : Its W (some ad') n c' (swp l i r)) => ih r hh rn (by omega) hn)
      have HM := Lib.hid hm
      have p1 : (0 : Int) ≤ k := by omega
      have p2 : (k : Int) < n := by omega
      have p3 : (0 : Int) ≤ i := by omega
      have p4 : (i : Int) < n := by omega
      have p5 : (0 : Int) ≤ r := by omega
      have p6 : (r : Int) < n := by omega
      clear h ih hk ht hm u1 u2 u3 hr hb
      go_enter Try.func36, Try.ntmps36
      go_upto_region 4 with fail
      go_cut [31] (fun sb wx => sb = .bool b ∧ Hid (Below w.heap.size w wx))
      case first =>
        by_cases c1 : m < n
        · have c1' : (m : Int) < n := by omega
          have p7 : (0 : Int) ≤ m := by omega
          have kl : k < l.length := by omega
          have ml : m < l.length := by omega
          obtain ⟨q, hq, e6, x0, x1, x2, fx⟩ := I.out.read k kn
          obtain rfl := Option.some.inj e6
          obtain ⟨q', hq', e6, y0, y1, y2, fy⟩ := I.out.read m c1
          obtain rfl := Option.some.inj e6
          rw [← nth_eq kl] at x0 x1 x2 fx
          rw [← nth_eq ml] at y0 y1 y2 fy
          have K := Lib.hid (KC.out (nth l k) (nth l m) fx fy)
          have BE : Hid (b = decide (cmpI (nth l k) (nth l m) < 0)) := by
            unfold Hid
            rw [HB.out]
            simp [c1]
          generalize cmpI (nth l k) (nth l m) = cc at *
          generalize nth l k = x at *
          generalize nth l m = y at *
          clear hq hq' kl ml fx fy c1
          go_region_held3 (fun w' => w'.cell? (ad.add (k * 3)) = some (.string x.k) ∧ w'.cell? ⟨(ad.add (k * 3)).block, (ad.add (k * 3)).off + 1, none⟩ = some (.int .u64 (x.u : Int)) ∧ w'.cell? ⟨(ad.add (k * 3)).block, (ad.add (k * 3)).off + 2, none⟩ = some (.int .u64 (x.w : Int)) ∧
              w'.cell? (ad.add (m * 3)) = some (.string y.k) ∧ w'.cell? ⟨(ad.add (m * 3)).block, (ad.add (m * 3)).off + 1, none⟩ = some (.int .u64 (y.u : Int)) ∧ w'.cell? ⟨(ad.add (m * 3)).block, (ad.add (m * 3)).off + 2, none⟩ = some (.int .u64 (y.w : Int)))
            ((refine ⟨?_, ?_, ?_, ?_, ?_, ?_⟩ <;> (repeat (first | with_reducible exact x0 | with_reducible exact x1 | with_reducible exact x2 | with_reducible exact y0 | with_reducible exact y1 | with_reducible exact y2 | with_reducible refine keep_drew ?_ | with_reducible refine keep_cell (by assumption) ?_))))
            (first | (go_at_call 31; (with_reducible refine (K.out _).mono ?_); rintro e Zt ⟨rfl, BZ⟩))
          have BW := Lib.hid (below_step (Below.refl w.heap.size w).drew BZ)
          clear x0 x1 x2 y0 y1 y2 K BZ
          go_wp2_with fail
          go_meet
          exact ⟨by rw [BE.out], BW⟩
        · have c1' : ¬ (m : Int) < n := by omega
          have c1b : decide ((m : Int) < n) = false := decide_eq_false c1'
          have e : b = false := by rw [HB.out]; exact decide_eq_false (fun h => c1 h.1)
          have BW := Lib.hid (Below.refl w.heap.size w).drew
          subst e
          clear c1
          go_region
          go_wp2_with fail
          go_meet
          exact ⟨rfl, BW⟩
      case rest =>
        obtain ⟨rfl, BW⟩ := hcut
        generalize wc = W2 at *
        go_upto_if 31 with fail
        go_cut [5] (fun s5 wx => s5 = .int .i64 (r : Int) ∧ wx = W2)
        case first =>
          cases b
          · have e : r = k := by rw [KD.out, if_neg (of_decide_eq_false HB.out.symm)]
            subst e
            go_wp2_with fail
            go_meet
            exact ⟨rfl, rfl⟩
          · have e : r = m := by rw [KD.out, if_pos (of_decide_eq_true HB.out.symm)]
            subst e
            go_wp2_with fail
            go_meet
            exact ⟨rfl, rfl⟩
        case rest =>
          obtain ⟨rfl, hw⟩ := hcut
          have hw := hw.symm
          subst hw
          clear KD HB z e1 e2 e4 p1 p2
          have il : i < l.length := by omega
          have rl : r < l.length := by omega
          obtain ⟨q, hq, e6, x0, x1, x2, fx⟩ := (I.out.next BW.out).read i hi
          obtain rfl := Option.some.inj e6
          obtain ⟨q', hq', e6, y0, y1, y2, fy⟩ := (I.out.next BW.out).read r rn
          obtain rfl := Option.some.inj e6
          rw [← nth_eq il] at x0 x1 x2 fx
          rw [← nth_eq rl] at y0 y1 y2 fy
          have KS := Lib.hid (fun (W : World) (hb : Below w.heap.size w W) => swap11_any (I.out.next hb) hi rn (show i ≠ r by have := HI.out.2.1; omega) hn)
          have SL := Lib.hid (show (swp l i r).length = n by rw [swp_len]; exact HL.out)
          have K := Lib.hid (KC.out (nth l i) (nth l r) fx fy)
          generalize cmpI (nth l i) (nth l r) = cc at *
          generalize nth l i = x at *
          generalize nth l r = y at *
          clear hq hq' il rl fx fy hl hd kn c0 hi rn
          go_upto_region 6 with fail
          go_region_held3 (fun w' => w'.cell? (ad.add (i * 3)) = some (.string x.k) ∧ w'.cell? ⟨(ad.add (i * 3)).block, (ad.add (i * 3)).off + 1, none⟩ = some (.int .u64 (x.u : Int)) ∧ w'.cell? ⟨(ad.add (i * 3)).block, (ad.add (i * 3)).off + 2, none⟩ = some (.int .u64 (x.w : Int)) ∧
              w'.cell? (ad.add (r * 3)) = some (.string y.k) ∧ w'.cell? ⟨(ad.add (r * 3)).block, (ad.add (r * 3)).off + 1, none⟩ = some (.int .u64 (y.u : Int)) ∧ w'.cell? ⟨(ad.add (r * 3)).block, (ad.add (r * 3)).off + 2, none⟩ = some (.int .u64 (y.w : Int)))
            ((refine ⟨?_, ?_, ?_, ?_, ?_, ?_⟩ <;> (repeat (first | with_reducible exact x0 | with_reducible exact x1 | with_reducible exact x2 | with_reducible exact y0 | with_reducible exact y1 | with_reducible exact y2 | with_reducible refine keep_drew ?_ | with_reducible refine keep_cell (by assumption) ?_))))
            (first | (go_at_call 31; (with_reducible refine (K.out _).mono ?_); rintro e Zt ⟨rfl, BZ⟩))
          have BV := Lib.hid (below_step BW.out.drew BZ)
          clear x0 x1 x2 y0 y1 y2 K BZ
          generalize hbb : decide (0 ≤ cc) = bb
          try generalize hb2 : decide (cc ≥ 0) = b2
          by_cases hc : 0 ≤ cc
          · rw [if_pos hc] at E
            have t1 : bb = true := by rw [← hbb]; exact decide_eq_true hc
            subst t1
            go_wp2_with fail
            go_ret
            refine ⟨ad, c, rfl, ?_, BV.out⟩
            rw [E.out]
            exact I.out.next BV.out
          · rw [if_neg hc] at E
            have t1 : bb = false := by rw [← hbb]; exact decide_eq_false hc
            subst t1
            go_wp2_with fail
            refine (KS.out _ BV.out).mono ?_
            rintro e w2 hs
            obtain ⟨a2, c2, rfl, I2, B2⟩ := hs.some_ SL.out
            have B2h := Lib.hid (below_step BV.out B2)
            have I2 := Lib.hid I2
            clear hs B2 KS
            go_wp2_with fail
            refine (IH.out _ _ _ I2.out).mono ?_
            rintro e w3 ⟨a3, c3, rfl, I3, B3⟩
            have B3h := Lib.hid (below_step B2h.out B3)
            clear B3
            go_wp2_with fail
            go_ret
            refine ⟨a3, c3, rfl, ?_, B3h.out⟩
            rw [E.out]
            exact I3
end Go.Proofs.Ytnkhgkpijfohkaa
namespace Go.Proofs.Ytnkhgkpijfohkaa
open Go.RowKit
set_option linter.unusedVariables false
set_option linter.unusedSimpArgs false
set_option maxHeartbeats 4000000
set_option maxRecDepth 100000
theorem Row3.store1 {W : World} {ad : Addr} {s : List It} (h : Row3 W ad s) {i : Nat} (hi : i < s.length) (y : It) :
    (W.setCell (ad.add (i * 3)) (.string y.k)).cell? ⟨(ad.add (i * 3)).block, (ad.add (i * 3)).off + 1, none⟩ = some (.int .u64 ((nth s i).u : Int)) ∧
    ((W.setCell (ad.add (i * 3)) (.string y.k)).setCell ⟨(ad.add (i * 3)).block, (ad.add (i * 3)).off + 1, none⟩ (.int .u64 (y.u : Int))).cell? ⟨(ad.add (i * 3)).block, (ad.add (i * 3)).off + 2, none⟩ = some (.int .u64 ((nth s i).w : Int)) := by
  obtain ⟨a0, a1, a2⟩ := h.cell hi
  rw [add_at h.el] at *
  dsimp only at *
  refine ⟨?_, ?_⟩
  · rw [cell_set_ne _ _ _ _ _ (by omega)]; exact a1
  · rw [cell_set_ne _ _ _ _ _ (by omega), cell_set_ne _ _ _ _ _ (by omega)]; exact a2
theorem put11_any {i : Nat} {ad : Addr} {n c : Nat} {l : List It} {x : It} {w : World} (h : Its w (some ad) n c l) (hi : i < n) (hn : n ≤ 100000) (fx : x.Fit) : Calls Try.prog 20 #[.slice (some ad) n c, .int .i64 (i : Int), itv x] w fun e w' => SomeL n (putL l i x) w e w' := by
  have I := Lib.hid h
  have HL := Lib.hid h.len
  have KC := Lib.hid (fun x y (hx : It.Fit x) (hy : It.Fit y) W => refCmp10_any x y hx hy W)
  have KP := Lib.hid (fun (W : World) (hb : Below w.heap.size w W) => copied_any (h.next hb) (by omega) hn)
  have KL := Lib.hid (fun (ad' : Addr) (c' : Nat) (W : World) (hh : Its W (some ad') n c' (l.set i x)) => lift11_any i hh hi hn)
  have KS := Lib.hid (fun (ad' : Addr) (c' : Nat) (W : World) (hh : Its W (some ad') n c' (l.set i x)) => sink11_any n i hh hi (by omega) hn)
  have FX := Lib.hid fx
  obtain ⟨b, hb⟩ : ∃ b, b = decide (0 < i ∧ 0 < cmpI x (nth l ((i - 1) / 2))) := ⟨_, rfl⟩
  have E : Hid (putL l i x = if b = true then liftL (l.set i x) i else sinkL (l.set i x) i) := by
    unfold Hid putL
    rw [hb]
    by_cases q : 0 < i ∧ 0 < cmpI x (nth l ((i - 1) / 2))
    · rw [if_pos q, if_pos (decide_eq_true q)]
    · rw [if_neg q, if_neg (by simpa using q)]
  have HB := Lib.hid hb
  have HI := Lib.hid hi
  have i0 : (0 : Int) ≤ i := by omega
  have i1 : (i : Int) < n := by omega
  clear h fx hb
  obtain ⟨xk, xu, xw⟩ := x
  have M := One.new w #[.string xk, .int .u64 (xu : Int), .int .u64 (xw : Int)] 25
  obtain ⟨g, hg⟩ : ∃ g, w.heap.size = g := ⟨_, rfl⟩
  rw [hg] at M
  go_enter Try.func20, Try.ntmps20
  go_wp2_with fail
  clear hg
  generalize w.alloc (.cells #[.string xk, .int .u64 (xu : Int), .int .u64 (xw : Int)] 25) = W0 at *
  have gl := M.bg.lt
  have wl := M.bl.size
  refine (KP.out _ M.bl).mono ?_
  rintro e W1 ⟨go, cap, rfl, hgo, h1, h2, R, B1⟩
  replace M := M.next B1
  have hne : g ≠ go := by omega
  have HG := Lib.hid (show w.heap.size ≤ go ∧ n ≤ cap ∧ cap ≤ 9223372036854775807 from ⟨by omega, h1, h2⟩)
  have c0' : (i : Int) < cap := by omega
  obtain ⟨ao, hao⟩ : ∃ a, a = (⟨go, 0, none⟩ : Addr) := ⟨_, rfl⟩
  rw [← hao] at R ⊢
  have il : i < l.length := by rw [HL.out]; exact hi
  obtain ⟨x0, x1, x2⟩ := M.bg.three
  obtain ⟨fy0, fy1, fy2⟩ := R.melts (i * 3)
  obtain ⟨z0, z1, z2⟩ := R.cell il
  obtain ⟨s1, s2⟩ := R.store1 il ⟨xk, xu, xw⟩
  have T := Lib.hid ((Tr.refl R).put il FX.out)
  have M2 : Hid (Box (put3 W1 (ao.add (i * 3)) ⟨xk, xu, xw⟩) g #[.string xk, .int .u64 (xu : Int), .int .u64 (xw : Int)]) := by
    obtain ⟨t, ht⟩ := M.bg
    exact ⟨t, (block_put3 W1 ⟨xk, xu, xw⟩ (by rw [blk_add R.el, hao]; exact hne)).trans ht⟩
  have BB := Lib.hid M.bl
  have HA := Lib.hid hao
  clear M KP hgo h1 h2 R B1 gl wl hao hne
  go_wp2_with fail
  clear x0 x1 x2 fy0 fy1 fy2 z0 z1 z2 s1 s2
  have BW : Hid (Below w.heap.size w (put3 W1 (ao.add (i * 3)) ⟨xk, xu, xw⟩)) := BB.out.trans (T.out.below (by rw [HA.out]; exact HG.out.1) BB.out.size)
  have I2 : Hid (Its (put3 W1 (ao.add (i * 3)) ⟨xk, xu, xw⟩) (some ao) n cap (l.set i ⟨xk, xu, xw⟩)) := T.out.row.its (by rw [List.length_set]; exact HL.out) HG.out.2.1 HG.out.2.2
  obtain ⟨W2, hW2⟩ : ∃ W, W = put3 W1 (ao.add (i * 3)) ⟨xk, xu, xw⟩ := ⟨_, rfl⟩
  rw [← hW2] at BW I2 M2
  unfold put3 at hW2
  dsimp only at hW2
  rw [← hW2]
  clear hW2 T BB
  refine (KL.out _ _ _ I2.out).mono ?_
  rintro e W3 ⟨a3, c3, rfl, I3, B3⟩
  have BX := Lib.hid (below_step BW.out B3)
  have I2 := Lib.hid (I2.out.next B3)
  have I3 := Lib.hid I3
  have M2 := Lib.hid (M2.out.next B3)
  clear B3 KL BW
  go_upto_region 4 with fail
  go_cut [30] (fun sb wx => sb = .bool b ∧ Hid (Below W3.heap.size W3 wx))
  case first =>
    by_cases e : i = 0
    · have eb : b = false := by rw [HB.out]; exact decide_eq_false (fun h => by omega)
      subst eb e
      have BD := Lib.hid (Below.refl W3.heap.size W3).drew
      go_region
      go_wp2_with fail
      go_meet
      exact ⟨rfl, BD⟩
    · obtain ⟨i', hi'⟩ : ∃ i', i = i' + 1 := ⟨i - 1, by omega⟩
      obtain ⟨j, hj⟩ : ∃ j, j = (i - 1) / 2 := ⟨_, rfl⟩
      have e1 : (0 : Int) < i := by omega
      have e1n : 0 < i := by omega
      have e2 : IntKind.i64.wrap ((i : Int) - 1) = (i' : Int) := by rw [IntKind.wrap_i64]; omega
      have e3 : Int.tdiv (i' : Int) 2 = (j : Int) := by rw [Int.tdiv_eq_ediv_of_nonneg (by omega)]; omega
      have e4 : (i' : Int) / 2 = (j : Int) := by omega
      have e5 : IntKind.i64.wrap (j : Int) = (j : Int) := by rw [IntKind.wrap_i64]; omega
      have p3 : (0 : Int) ≤ j := by omega
      have p4 : (j : Int) < n := by omega
      have jl : j < l.length := by omega
      obtain ⟨q', hq', e6, y0, y1, y2, fy⟩ := (I.out.next BX.out).read j (by omega)
      obtain rfl := Option.some.inj e6
      rw [← nth_eq jl] at y0 y1 y2 fy
      obtain ⟨x0, x1, x2⟩ := M2.out.three
      have K := Lib.hid (KC.out ⟨xk, xu, xw⟩ (nth l j) FX.out fy)
      have BE : Hid (b = decide (0 < cmpI ⟨xk, xu, xw⟩ (nth l j))) := by
        unfold Hid
        rw [HB.out, ← hj]
        simp [e1n]
      generalize cmpI ⟨xk, xu, xw⟩ (nth l j) = cc at *
      generalize nth l j = y at *
      clear hi' hj hq' jl fy e il
      go_region_held3 (fun w' => w'.cell? ⟨g, 0, none⟩ = some (.string xk) ∧ w'.cell? ⟨g, 1, none⟩ = some (.int .u64 (xu : Int)) ∧ w'.cell? ⟨g, 2, none⟩ = some (.int .u64 (xw : Int)) ∧
          w'.cell? (ad.add (j * 3)) = some (.string y.k) ∧ w'.cell? ⟨(ad.add (j * 3)).block, (ad.add (j * 3)).off + 1, none⟩ = some (.int .u64 (y.u : Int)) ∧ w'.cell? ⟨(ad.add (j * 3)).block, (ad.add (j * 3)).off + 2, none⟩ = some (.int .u64 (y.w : Int)))
        ((refine ⟨?_, ?_, ?_, ?_, ?_, ?_⟩ <;> (repeat (first | with_reducible exact x0 | with_reducible exact x1 | with_reducible exact x2 | with_reducible exact y0 | with_reducible exact y1 | with_reducible exact y2 | with_reducible refine keep_drew ?_ | with_reducible refine keep_cell (by assumption) ?_))))
        (first | (go_at_call 31; (with_reducible refine (K.out _).mono ?_); rintro e Zt ⟨rfl, BZ⟩))
      have BV := Lib.hid (below_step (Below.refl W3.heap.size W3).drew BZ)
      clear x0 x1 x2 y0 y1 y2 K BZ
      go_wp2_with fail
      go_meet
      exact ⟨by rw [BE.out], BV⟩
  case rest =>
    obtain ⟨rfl, BV⟩ := hcut
    generalize wc = W4 at *
    have BY := Lib.hid (BX.out.trans (BV.out.mono BX.out.size))
    cases b
    · rw [if_neg (by decide)] at E
      go_wp2_with fail
      refine (KS.out _ _ _ (I2.out.next BV.out)).mono ?_
      rintro e W5 ⟨a5, c5, rfl, I5, B5⟩
      have B5 := Lib.hid (below_step BY.out B5)
      go_wp2_with fail
      go_ret
      refine ⟨a5, c5, rfl, ?_, B5.out⟩
      rw [E.out]
      exact I5
    · rw [if_pos rfl] at E
      go_wp2_with fail
      go_ret
      refine ⟨a3, c3, rfl, ?_, BY.out⟩
      rw [E.out]
      exact I3.out.next BV.out
end Go.Proofs.Ytnkhgkpijfohkaa
namespace Go.Proofs.Ytnkhgkpijfohkaa
open Go.RowKit
set_option linter.unusedVariables false
set_option linter.unusedSimpArgs false
set_option maxHeartbeats 4000000
set_option maxRecDepth 100000
theorem pop11_one (A : Option Addr) (c : Nat) (w : World) : Calls Try.prog 19 #[.slice A 1 c] w fun e w' => e = .returned (.slice none 0 0) ∧ w = w' := by
  go_enter Try.func19, Try.ntmps19
  go_wp2_with fail
  go_ret
  exact ⟨rfl, rfl⟩
theorem pop11_any {ad : Addr} {n c : Nat} {l : List It} {w : World} (h : Its w (some ad) n c l) (h2 : 2 ≤ n) (hn : n ≤ 100000) : Calls Try.prog 19 #[.slice (some ad) n c] w fun e w' => SomeL (n - 1) (popL l) w e w' := by
  obtain ⟨m, hm⟩ : ∃ m, m = n - 1 := ⟨_, rfl⟩
  have hc := h.cap
  have I := Lib.hid h
  have HL := Lib.hid h.len
  have ml : m < l.length := by rw [h.len]; omega
  have fx : (nth l m).Fit := h.fit _ (nth_mem ml)
  have TL := Lib.hid (show (l.take m).length = m by rw [List.length_take, h.len]; omega)
  have KP := Lib.hid (copied_any (h.front m (by omega)) (by omega) (by omega))
  have KS := Lib.hid (fun (ad' : Addr) (c' : Nat) (W : World) (hh : Its W (some ad') m c' ((l.take m).set 0 (nth l m))) => sink11_any m 0 hh (by omega) (by omega) (by omega))
  have E : Hid (popL l = sinkL ((l.take m).set 0 (nth l m)) 0) := by
    unfold Hid popL
    rw [if_neg (by rw [h.len]; omega), h.len, ← hm]
  rw [← hm]
  have e1 : IntKind.i64.wrap ((n : Int) - 1) = (m : Int) := by rw [IntKind.wrap_i64]; omega
  have e2 : ¬ (m : Int) = 0 := by omega
  have e3 : ((m : Int) == 0) = false := by simp; omega
  have m0 : (0 : Int) ≤ m := by omega
  have mc : (m : Int) ≤ c := by omega
  have mn : (m : Int) < n := by omega
  have mN : m < n := by omega
  have mp : (0 : Int) < m := by omega
  have mpn : 0 < m := by omega
  obtain ⟨q, hq, e6, x0, x1, x2, -⟩ := h.read m mN
  obtain rfl := Option.some.inj e6
  rw [← nth_eq ml] at x0 x1 x2
  have FX := Lib.hid fx
  have KEEP : Hid (∀ W, Below w.heap.size w W → W.cell? (ad.add (m * 3)) = some (.string (nth l m).k) ∧ W.cell? ⟨(ad.add (m * 3)).block, (ad.add (m * 3)).off + 1, none⟩ = some (.int .u64 ((nth l m).u : Int)) ∧ W.cell? ⟨(ad.add (m * 3)).block, (ad.add (m * 3)).off + 2, none⟩ = some (.int .u64 ((nth l m).w : Int))) :=
    fun W hb => ⟨keep_cell hb x0, keep_cell hb x1, keep_cell hb x2⟩
  generalize nth l m = x at *
  have HM := Lib.hid hm
  clear h fx hm hc ml x0 x1 x2 hq
  go_enter Try.func19, Try.ntmps19
  go_wp2_with fail
  refine KP.out.mono ?_
  rintro e W1 ⟨go, cap, rfl, hgo, h1, h3, R, B1⟩
  have HG := Lib.hid (show w.heap.size ≤ go ∧ m ≤ cap ∧ cap ≤ 9223372036854775807 from ⟨hgo, h1, h3⟩)
  obtain ⟨ao, hao⟩ : ∃ a, a = (⟨go, 0, none⟩ : Addr) := ⟨_, rfl⟩
  rw [← hao] at R ⊢
  have il : 0 < (l.take m).length := by rw [TL.out]; exact mpn
  obtain ⟨x0, x1, x2⟩ := KEEP.out W1 B1
  obtain ⟨fy0, fy1, fy2⟩ := R.melts (0 * 3)
  obtain ⟨z0, z1, z2⟩ := R.cell il
  obtain ⟨s1, s2⟩ := R.store1 il x
  have T := Lib.hid ((Tr.refl R).put il FX.out)
  have A0 : ao.add (0 * 3) = ao := by unfold Addr.add; rfl
  rw [A0] at fy0 fy1 fy2 z0 z1 z2 s1 s2 T
  have BB := Lib.hid B1
  have HA := Lib.hid hao
  clear KP hgo h1 h3 R B1 hao A0 il
  go_wp2_with fail
  clear x0 x1 x2 fy0 fy1 fy2 z0 z1 z2 s1 s2
  have BW : Hid (Below w.heap.size w (put3 W1 ao x)) := BB.out.trans (T.out.below (by rw [HA.out]; exact HG.out.1) BB.out.size)
  have I2 : Hid (Its (put3 W1 ao x) (some ao) m cap ((l.take m).set 0 x)) := T.out.row.its (by rw [List.length_set]; exact TL.out) HG.out.2.1 HG.out.2.2
  refine (KS.out _ _ _ I2.out).mono ?_
  rintro e W5 ⟨a5, c5, rfl, I5, B5⟩
  have B5 := Lib.hid (below_step BW.out B5)
  clear BW I2 T
  go_wp2_with fail
  go_ret
  refine ⟨a5, c5, rfl, ?_, B5.out⟩
  rw [E.out]
  exact I5
end Go.Proofs.Ytnkhgkpijfohkaa
namespace Go.Proofs.Ytnkhgkpijfohkaa
open Go.RowKit
set_option linter.unusedVariables false
set_option linter.unusedSimpArgs false
set_option maxHeartbeats 4000000
set_option maxRecDepth 100000
/-- Is it a heap of items that may be? -/
noncomputable def rightB (h : List It) : Bool := h.all mayB && @decide (HeapP h) (Classical.propDecidable _)
theorem rightB_iff {h : List It} : rightB h = true ↔ h.all mayB = true ∧ HeapP h := by
  unfold rightB
  rw [Bool.and_eq_true, @decide_eq_true_eq _ (Classical.propDecidable _)]
theorem rightB_may {h : List It} (r : rightB h = true) : May h := fun y hy => by
  have := List.all_eq_true.1 (rightB_iff.1 r).1 y hy
  unfold mayB at this
  simp at this
  exact this.2
/-- All below the places up to i stand right. -/
def Upto (l : List It) (i : Nat) : Prop := ∀ k, 0 < k → k < l.length → (k - 1) / 2 < i → cmpI (nth l k) (nth l ((k - 1) / 2)) ≤ 0
theorem right11_any {A : Option Addr} {n c : Nat} {l : List It} {w : World} (h : Its w A n c l) (hn : n ≤ 100000) : Calls Try.prog 14 #[.slice A n c] w fun e w' => e = .returned (.bool (rightB l)) ∧ Below w.heap.size w w' := by
  have H := Lib.hid h
  have HL := Lib.hid h.len
  have KM := Lib.hid (fun (x : It) W => refMay_any x W)
  have KC := Lib.hid (fun x y (hx : It.Fit x) (hy : It.Fit y) W => refCmp10_any x y hx hy W)
  clear h
  go_enter Try.func14, Try.ntmps14
  go_wp2_with fail
  go_loopg [3] n (fun q s3 wr => ∃ i : Nat, s3 = .int .i64 (i : Int) ∧ i + q = n ∧ Hid ((l.take i).all mayB = true) ∧ Hid (Below w.heap.size w wr))
  case atStart => exact ⟨0, rfl, by omega, rfl, Below.refl _ _⟩
  case round =>
    obtain ⟨i, rfl, hq, AL, BL⟩ := hrel
    have HQ := Lib.hid hq
    by_cases lt : i < n
    · have i1 : (i : Int) < n := by omega
      have i0 : (0 : Int) ≤ i := by omega
      obtain ⟨ad, hj, rfl, a0, a1, a2, ft⟩ := (H.out.next BL.out).read i lt
      have TK : Hid ((l.take (i + 1)).all mayB = mayB l[i]) := by
        unfold Hid
        rw [List.take_succ_eq_append_getElem hj, List.all_append, AL.out]; simp
      have IN : Hid (l[i] ∈ l) := List.getElem_mem hj
      generalize l[i] = x at *
      have K := Lib.hid (KM.out x)
      have LT := Lib.hid lt
      clear ft hq lt hj
      go_wp2_with fail
      refine (K.out _).mono ?_
      rintro e z ⟨rfl, BZ⟩
      have BN := Lib.hid (below_step BL.out BZ)
      clear a0 a1 a2 BZ K KM
      cases hm : mayB x
      · have EA : Hid (rightB l = false) := by
          unfold Hid rightB
          have : l.all mayB = false := by
            cases q : l.all mayB with
            | false => rfl
            | true => rw [List.all_eq_true.1 q x IN.out] at hm; exact absurd hm (by decide)
          rw [this]; rfl
        go_wp2_with fail
        go_ret
        exact ⟨by rw [EA.out]; rfl, BN.out⟩
      · rw [hm] at TK
        go_wp2_with fail
        go_roundg (gk - 1)
        case measure => have := HQ.out; have := LT.out; omega
        case rel =>
          go_light
          exact ⟨i + 1, by go_num, by have := HQ.out; have := LT.out; omega, TK, BN⟩
    · obtain rfl : i = n := by omega
      have i1 : ¬ (i : Int) < i := by omega
      have EA : Hid (l.all mayB = true) := by
        have := AL.out
        rw [List.take_of_length_le (by rw [HL.out]; exact Nat.le_refl _)] at this
        exact this
      clear hq lt KM
      generalize wr = W1 at *
      go_wp2_with fail
      go_loopg [4] i (fun q s4 wr => ∃ j : Nat, s4 = .int .i64 (j : Int) ∧ j + q = i ∧ Hid (Upto l j) ∧ Hid (Below w.heap.size w wr))
      case atStart => exact ⟨0, rfl, by omega, fun k _ _ h => absurd h (by omega), BL⟩
      case round =>
        obtain ⟨j, rfl, hq, UP, BL2⟩ := hrel
        obtain ⟨X, rfl⟩ : ∃ X, X = gk := ⟨_, rfl⟩
        have HQ2 := Lib.hid hq
        by_cases lt : j < i
        · have j1 : (j : Int) < i := by omega
          have j0 : (0 : Int) ≤ j := by omega
          obtain ⟨t, ht⟩ : ∃ t, t = 2 * j := ⟨_, rfl⟩
          obtain ⟨t1, ht1⟩ : ∃ t, t = 2 * j + 1 := ⟨_, rfl⟩
          obtain ⟨t2, ht2⟩ : ∃ t, t = 2 * j + 2 := ⟨_, rfl⟩
          have f1 : IntKind.i64.wrap (2 * (j : Int)) = (t : Int) := by rw [IntKind.wrap_i64]; omega
          have f2 : IntKind.i64.wrap ((t : Int) + 1) = (t1 : Int) := by rw [IntKind.wrap_i64]; omega
          have f3 : IntKind.i64.wrap ((t : Int) + 2) = (t2 : Int) := by rw [IntKind.wrap_i64]; omega
          have HT := Lib.hid ht; have HT1 := Lib.hid ht1; have HT2 := Lib.hid ht2; have LT := Lib.hid lt
          have I0 : Hid (∀ k', k' < t1 → k' < l.length → (k' - 1) / 2 = j → 0 < k' → cmpI (nth l k') (nth l j) ≤ 0) := fun k' h1 _ h2 h3 => absurd h2 (by omega)
          clear ht ht1 ht2 hq lt
          go_wp2_with fail
          go_loopg [5] 2 (fun q s5 wt => ∃ k : Nat, s5 = .int .i64 (k : Int) ∧ t1 ≤ k ∧ k ≤ t2 + 1 ∧ t2 + 1 ≤ k + q ∧ Hid (∀ k', k' < k → k' < l.length → (k' - 1) / 2 = j → 0 < k' → cmpI (nth l k') (nth l j) ≤ 0) ∧ Hid (Below w.heap.size w wt))
          case atStart => exact ⟨t1, rfl, Nat.le_refl _, by have := HT1.out; have := HT2.out; omega, by have := HT1.out; have := HT2.out; omega, I0, BL2⟩
          case round =>
            obtain ⟨k, rfl, k1, k2, hq, IV, BT⟩ := hrel
            clear I0
            have HQ3 := Lib.hid hq
            have K12 := Lib.hid (show t1 ≤ k ∧ k ≤ t2 + 1 from ⟨k1, k2⟩)
            have DONE : Hid ((¬ k ≤ t2 ∨ ¬ k < i) → Upto l (j + 1)) := by
              intro hd k' h0 hk' hp
              by_cases e : (k' - 1) / 2 = j
              · rw [e]
                refine IV.out k' ?_ hk' e h0
                have := HL.out; have := HT.out; have := HT2.out
                rcases hd with hd | hd <;> omega
              · exact UP.out k' h0 hk' (by omega)
            by_cases c1 : k ≤ t2
            · have c1' : (k : Int) ≤ t2 := by omega
              by_cases c2 : k < i
              · have c2' : (k : Int) < i := by omega
                have p1 : (0 : Int) ≤ k := by omega
                have jl : j < l.length := by have := HL.out; have := LT.out; omega
                have kl : k < l.length := by have := HL.out; omega
                obtain ⟨ad, hj, rfl, x0, x1, x2, fx⟩ := (H.out.next BT.out).read j LT.out
                obtain ⟨q', hq', e6, y0, y1, y2, fy⟩ := (H.out.next BT.out).read k c2
                obtain rfl := Option.some.inj e6
                rw [← nth_eq jl] at x0 x1 x2 fx
                rw [← nth_eq kl] at y0 y1 y2 fy
                have K := Lib.hid (KC.out (nth l j) (nth l k) fx fy)
                obtain ⟨cc, hcc⟩ : ∃ cc, cc = cmpI (nth l j) (nth l k) := ⟨_, rfl⟩
                rw [← hcc] at K
                have HCC := Lib.hid hcc
                have KL := Lib.hid kl
                have C2 := Lib.hid c2
                have HX : Hid ((nth l j) = (nth l j) ∧ (nth l k) = nth l k) := ⟨rfl, rfl⟩
                clear hj hq' jl kl fx fy hcc hq HX
                obtain ⟨x, hx⟩ : ∃ x, x = nth l j := ⟨_, rfl⟩
                obtain ⟨y, hy⟩ : ∃ y, y = nth l k := ⟨_, rfl⟩
                rw [← hx] at x0 x1 x2 K HCC
                rw [← hy] at y0 y1 y2 K HCC
                have HXX := Lib.hid hx
                have HYY := Lib.hid hy
                clear hx hy
                go_wp2_with fail
                go_region_held3 (fun w' => w'.cell? (ad.add (j * 3)) = some (.string x.k) ∧ w'.cell? ⟨(ad.add (j * 3)).block, (ad.add (j * 3)).off + 1, none⟩ = some (.int .u64 (x.u : Int)) ∧ w'.cell? ⟨(ad.add (j * 3)).block, (ad.add (j * 3)).off + 2, none⟩ = some (.int .u64 (x.w : Int)) ∧
                    w'.cell? (ad.add (k * 3)) = some (.string y.k) ∧ w'.cell? ⟨(ad.add (k * 3)).block, (ad.add (k * 3)).off + 1, none⟩ = some (.int .u64 (y.u : Int)) ∧ w'.cell? ⟨(ad.add (k * 3)).block, (ad.add (k * 3)).off + 2, none⟩ = some (.int .u64 (y.w : Int)))
                  ((refine ⟨?_, ?_, ?_, ?_, ?_, ?_⟩ <;> (repeat (first | with_reducible exact x0 | with_reducible exact x1 | with_reducible exact x2 | with_reducible exact y0 | with_reducible exact y1 | with_reducible exact y2 | with_reducible refine keep_drew ?_ | with_reducible refine keep_cell (by assumption) ?_))))
                  (first | (go_at_call 31; (with_reducible refine (K.out _).mono ?_); rintro e Zt ⟨rfl, BZ⟩))
                have BV := Lib.hid (below_step BT.out.drew BZ)
                clear x0 x1 x2 y0 y1 y2 K BZ
                by_cases hc : cc < 0
                · have EF : Hid (rightB l = false) := by
                    unfold Hid
                    cases q : rightB l with
                    | false => rfl
                    | true =>
                      have hp := (rightB_iff.1 q).2 k (by have := K12.out; have := HT1.out; omega) KL.out
                      rw [show (k - 1) / 2 = j by have := K12.out; have := HT1.out; have := HT2.out; omega] at hp
                      have := cmpI_anti (nth l j) (nth l k)
                      rw [← HXX.out, ← HYY.out] at this hp
                      rw [← HCC.out] at this
                      omega
                  go_wp2_with fail
                  go_ret
                  exact ⟨by rw [EF.out]; rfl, BV.out⟩
                · have IV2 : Hid (∀ k', k' < k + 1 → k' < l.length → (k' - 1) / 2 = j → 0 < k' → cmpI (nth l k') (nth l j) ≤ 0) := by
                    intro k' h1 h2 h3 h4
                    by_cases e : k' = k
                    · subst e
                      rw [← HXX.out, ← HYY.out]
                      exact cmpI_ge (by rw [← HCC.out]; exact hc)
                    · exact IV.out k' (by omega) h2 h3 h4
                  go_wp2_with fail
                  go_roundg (gk - 1)
                  case measure => have := HQ3.out; have := K12.out; omega
                  case rel =>
                    go_light
                    exact ⟨k + 1, by go_num, by have := K12.out; omega, by omega, by have := HQ3.out; omega, IV2, BV⟩
              · have c2' : ¬ (k : Int) < i := by omega
                have UN := Lib.hid (DONE.out (.inr c2))
                clear hq
                go_wp2_with fail
                go_roundg (X - 1)
                case measure => have := HQ2.out; have := LT.out; omega
                case rel =>
                  go_light
                  exact ⟨j + 1, by go_num, by have := HQ2.out; have := LT.out; omega, UN, BT⟩
            · have c1' : ¬ (k : Int) ≤ t2 := by omega
              have UN := Lib.hid (DONE.out (.inl c1))
              clear hq
              go_wp2_with fail
              go_roundg (X - 1)
              case measure => have := HQ2.out; have := LT.out; omega
              case rel =>
                go_light
                exact ⟨j + 1, by go_num, by have := HQ2.out; have := LT.out; omega, UN, BT⟩
        · obtain rfl : j = i := by omega
          have j1 : ¬ (j : Int) < j := by omega
          have ET : Hid (rightB l = true) := rightB_iff.2 ⟨EA.out, fun k h0 hk => UP.out k h0 hk (by have := HL.out; omega)⟩
          clear hq lt
          go_wp2_with fail
          go_ret
          exact ⟨by rw [ET.out]; rfl, BL2.out⟩
end Go.Proofs.Ytnkhgkpijfohkaa
namespace Go.Proofs.Ytnkhgkpijfohkaa
open Go.RowKit
set_option linter.unusedVariables false
set_option linter.unusedSimpArgs false
set_option maxHeartbeats 4000000
set_option maxRecDepth 100000
/-- Equal items? -/
@[irreducible] def eqI (y x : It) : Bool := (y.k.toList == x.k.toList) && (((y.u : Int) == (x.u : Int)) && ((y.w : Int) == (x.w : Int)))
theorem eqI_iff {y x : It} : eqI y x = true ↔ y = x := by
  unfold eqI
  simp only [Bool.and_eq_true, beq_iff_eq]
  constructor
  · rintro ⟨a, b, c⟩
    cases y; cases x
    simp only [It.mk.injEq]
    exact ⟨text_eq a, Int.ofNat.inj b, Int.ofNat.inj c⟩
  · rintro rfl; exact ⟨rfl, rfl, rfl⟩
/-- Without the first one that is equal. -/
def without : List It → It → List It
  | [], _ => []
  | y :: l, x => if eqI y x = true then l else y :: without l x
theorem without_take {l : List It} {x : It} {i : Nat} (h : i < l.length) (g : ∀ y ∈ l.take i, eqI y x = false) : without l x = l.take i ++ (if eqI l[i] x = true then l.drop (i + 1) else l[i] :: without (l.drop (i + 1)) x) := by
  induction l generalizing i with
  | nil => exact absurd h (by simp)
  | cons a l ih =>
    cases i with
    | zero => simp [without]
    | succ i =>
      have ga : eqI a x = false := g a (by simp)
      have := ih (i := i) (by simpa using h) (fun y hy => g y (by simp [hy]))
      rw [without, ga, if_neg (by decide), this]
      simp
theorem without11_any {A : Option Addr} {n c : Nat} {l : List It} {x : It} {w : World} (h : Its w A n c l) (hn : n ≤ 100000) (fx : x.Fit) : Calls Try.prog 22 #[.slice A n c, itv x] w fun e w' => ∃ v, e = .returned v ∧ Rw w.heap.size v (without l x) w' ∧ Below w.heap.size w w' := by
  have H := Lib.hid h
  have HL := Lib.hid h.len
  obtain ⟨xk, xu, xw⟩ := x
  have M := One.new w #[.string xk, .int .u64 (xu : Int), .int .u64 (xw : Int)] 25
  obtain ⟨g, hg⟩ : ∃ g, w.heap.size = g := ⟨_, rfl⟩
  rw [hg] at M
  clear h
  go_enter Try.func22, Try.ntmps22
  go_wp2_with fail
  clear hg
  generalize w.alloc (.cells #[.string xk, .int .u64 (xu : Int), .int .u64 (xw : Int)] 25) = W0 at *
  have M := Lib.hid M
  go_loopg [5, 6, 11] n (fun q s5 s6 s11 wr => ∃ (i : Nat) (gone : Bool) (out : List It), s11 = .int .i64 (i : Int) ∧ i + q = n ∧ s6 = .bool gone ∧ Hid (Rw W0.heap.size s5 out wr) ∧ Hid (out ++ (if gone = true then l.drop i else without (l.drop i) ⟨xk, xu, xw⟩) = without l ⟨xk, xu, xw⟩) ∧ Hid (out.length ≤ i) ∧ Hid (Below W0.heap.size W0 wr))
  case atStart => exact ⟨0, false, [], rfl, by omega, rfl, Rw.nil _ _, by unfold Hid; simp, by unfold Hid; simp, Below.refl _ _⟩
  case round =>
    obtain ⟨i, gone, out, rfl, hq, rfl, R, EQ, OL, BL⟩ := hrel
    have HQ := Lib.hid hq
    by_cases lt : i < n
    · have i1 : (i : Int) < n := by omega
      have i0 : (0 : Int) ≤ i := by omega
      have bw := Lib.hid (M.out.next BL.out).bl
      obtain ⟨ad, hj, rfl, a0, a1, a2, ft⟩ := (H.out.next bw.out).read i lt
      have DR : Hid (l.drop i = l[i] :: l.drop (i + 1)) := List.drop_eq_getElem_cons hj
      generalize l[i] = y at *
      have FY := Lib.hid ft
      have LT := Lib.hid lt
      have ML := (M.out.next BL.out)
      clear ft hq lt hj
      go_upto_region 6 with fail
      clear a0 a1 a2
      have D := One.new wr #[.string y.k, .int .u64 (y.u : Int), .int .u64 (y.w : Int)] 25
      have BX : Box (wr.alloc (.cells #[.string y.k, .int .u64 (y.u : Int), .int .u64 (y.w : Int)] 25)) g #[.string xk, .int .u64 (xu : Int), .int .u64 (xw : Int)] := ML.bg.alloc _
      have R2 := Lib.hid (R.out.next ((Below.refl _ _).alloc (Nat.le_refl _) (.cells #[.string y.k, .int .u64 (y.u : Int), .int .u64 (y.w : Int)] 25)))
      generalize hV : wr.alloc (.cells #[.string y.k, .int .u64 (y.u : Int), .int .u64 (y.w : Int)] 25) = V at *
      try rw [hV]
      clear hV
      obtain ⟨gy, hgy⟩ : ∃ gy, wr.heap.size = gy := ⟨_, rfl⟩
      rw [hgy] at D
      try rw [hgy]
      obtain ⟨x0, x1, x2⟩ := BX.three
      obtain ⟨y0, y1, y2⟩ := D.bg.three
      have BV := Lib.hid (below_step BL.out D.bl)
      clear ML BX hgy
      go_cut [21] (fun sb wx => sb = .bool (!gone && eqI y ⟨xk, xu, xw⟩) ∧ wx = V)
      case first =>
        cases gone
        · cases hk : (y.k.toList == xk.toList)
          · have E : Hid (eqI y ⟨xk, xu, xw⟩ = false) := by unfold Hid eqI; dsimp only; rw [hk]; rfl
            go_wp2_with fail
            go_meet
            exact ⟨by rw [E.out]; rfl, rfl⟩
          · cases hu : ((y.u : Int) == (xu : Int))
            · have E : Hid (eqI y ⟨xk, xu, xw⟩ = false) := by unfold Hid eqI; dsimp only; rw [hk, hu]; rfl
              go_wp2_with fail
              go_meet
              exact ⟨by rw [E.out]; rfl, rfl⟩
            · cases hw : ((y.w : Int) == (xw : Int))
              · have E : Hid (eqI y ⟨xk, xu, xw⟩ = false) := by unfold Hid eqI; dsimp only; rw [hk, hu, hw]; rfl
                go_wp2_with fail
                go_meet
                exact ⟨by rw [E.out]; rfl, rfl⟩
              · have E : Hid (eqI y ⟨xk, xu, xw⟩ = true) := by unfold Hid eqI; dsimp only; rw [hk, hu, hw]; rfl
                go_wp2_with fail
                go_meet
                exact ⟨by rw [E.out]; rfl, rfl⟩
        · go_wp2_with fail
          go_meet
          exact ⟨rfl, rfl⟩
      case rest =>
        obtain ⟨rfl, hw⟩ := hcut
        have hw := hw.symm
        subst hw
        have FY2 := FY.out
        have BVx := Lib.hid D.bl
        cases hb : (!gone && eqI y ⟨xk, xu, xw⟩)
        · have EQ2 : Hid ((out ++ [y]) ++ (if gone = true then l.drop (i + 1) else without (l.drop (i + 1)) ⟨xk, xu, xw⟩) = without l ⟨xk, xu, xw⟩) := by
            have q := EQ.out
            rw [DR.out] at q
            cases gone
            · have e : eqI y ⟨xk, xu, xw⟩ = false := by simpa using hb
              rw [if_neg (by decide), without, if_neg (by rw [e]; decide)] at q
              rw [if_neg (by decide)]
              unfold Hid
              rw [← q]; simp
            · rw [if_pos rfl] at q
              rw [if_pos rfl]
              unfold Hid
              rw [← q]; simp
          clear hb
          have R3 := Lib.hid (R2.out.next ((Below.refl _ _).alloc (Nat.le_refl _) (.cells #[.string y.k, .int .u64 (y.u : Int), .int .u64 (y.w : Int)] 25)))
          have HS : Hid (W0.heap.size ≤ (V.alloc (.cells #[.string y.k, .int .u64 (y.u : Int), .int .u64 (y.w : Int)] 25)).heap.size) := by
            have b := BV.out.size; unfold Hid; rw [World.size_alloc]; omega
          have SM := Lib.hid (show out.length + [y].length ≤ 1000000 by have := OL.out; have := LT.out; simp only [List.length_singleton]; omega)
          clear x0 x1 x2
          go_wp2_with (at_builtin; refine wpList_appI rfl _ _ rfl rfl R3.out HS.out rfl (Its.new V y FY2 _) (fun e => absurd e (by simp)) SM.out ?_)
          intro v1 W1 R4 B4
          have BN : Hid (Below W0.heap.size W0 W1) := (BV.out.alloc BV.out.size _).trans B4
          have RN : Hid (Rw W0.heap.size v1 (out ++ [y]) W1) := R4
          have OLN : Hid ((out ++ [y]).length ≤ i + 1) := by have := OL.out; unfold Hid; rw [List.length_append, List.length_singleton]; omega
          clear R4 B4 R2 R3
          go_wp2_with fail
          go_roundg (gk - 1)
          case measure => have := HQ.out; have := LT.out; omega
          case rel =>
            go_light
            exact ⟨i + 1, gone, out ++ [y], by go_num, by have := HQ.out; have := LT.out; omega, rfl, RN, EQ2, OLN, BN⟩
        · have ge : gone = false ∧ eqI y ⟨xk, xu, xw⟩ = true := by simpa using hb
          obtain ⟨rfl, he⟩ := ge
          have EQ2 : Hid (out ++ (if true = true then l.drop (i + 1) else without (l.drop (i + 1)) ⟨xk, xu, xw⟩) = without l ⟨xk, xu, xw⟩) := by
            have q := EQ.out
            rw [DR.out, if_neg (by decide), without, if_pos he] at q
            unfold Hid
            rw [if_pos rfl]
            exact q
          have OLN : Hid (out.length ≤ i + 1) := by have := OL.out; unfold Hid; omega
          clear hb he
          go_wp2_with fail
          go_roundg (gk - 1)
          case measure => have := HQ.out; have := LT.out; omega
          case rel =>
            go_light
            exact ⟨i + 1, true, out, by go_num, by have := HQ.out; have := LT.out; omega, rfl, R2, EQ2, OLN, BV⟩
    · obtain rfl : i = n := by omega
      have i1 : ¬ (i : Int) < i := by omega
      have EN : Hid (out = without l ⟨xk, xu, xw⟩) := by
        have q := EQ.out
        rw [List.drop_of_length_le (by rw [HL.out]; exact Nat.le_refl _)] at q
        unfold Hid
        rw [← q]
        cases gone <;> simp [without]
      have BE := Lib.hid (M.out.next BL.out).bl
      have MS := Lib.hid M.out.bl.size
      clear hq lt
      go_wp2_with fail
      go_ret
      refine ⟨_, rfl, ?_, BE.out⟩
      rw [← EN.out]
      exact R.out.mono MS.out
end Go.Proofs.Ytnkhgkpijfohkaa
namespace Go.Proofs.Ytnkhgkpijfohkaa
open Go.RowKit
set_option linter.unusedVariables false
/-- No item. -/
abbrev itz : It := ⟨⟨#[]⟩, 0, 0⟩
/-- Push's answer: the list, the error. -/
noncomputable def pushA (l : List It) (x : It) : List It × Int := if rightB l = false then (l, 1) else if chk x ≠ 0 then (l, chk x) else (pushL l x, 0)
/-- Pop's answer: the item, the others, the error. -/
noncomputable def popA (l : List It) : It × List It × Int := if rightB l = false then (itz, l, 1) else if l = [] then (itz, l, 3) else (nth l 0, popL l, 0)
/-- Put's answer. -/
noncomputable def putA (l : List It) (i : Int) (x : It) : List It × Int := if rightB l = false then (l, 1) else if i < 0 ∨ (l.length : Int) ≤ i then (l, 3) else if chk x ≠ 0 then (l, chk x) else (putL l i.toNat x, 0)
/-- Where the first item of a key is. -/
def findL : List It → ByteArray → Option Nat
  | [], _ => none
  | y :: l, k => if y.k = k then some 0 else (findL l k).map (· + 1)
noncomputable def findA (l : List It) (k : ByteArray) : Option Nat := if rightB l = false then none else findL l k
/-- All, popped one by one. -/
def downN : Nat → List It → List It
  | 0, _ => []
  | n + 1, l => nth l 0 :: downN n (popL l)
noncomputable def downA (l : List It) : List It := if rightB l = false then [] else downN l.length l
theorem popL_len {h : List It} (h0 : 0 < h.length) : (popL h).length = h.length - 1 := by
  have := (popL_perm h0).length_eq
  rw [List.length_cons] at this
  omega
theorem pushL_len (h : List It) (x : It) : (pushL h x).length = h.length + 1 := by
  have := (pushL_perm h x).length_eq
  rw [List.length_append, List.length_singleton] at this
  exact this
theorem putL_len {h : List It} {x : It} {i : Nat} (hi : i < h.length) : (putL h i x).length = h.length := by
  have := (putL_perm (x := x) hi).length_eq
  rw [List.length_set] at this
  exact this
theorem findL_some {l : List It} {k : ByteArray} {i : Nat} (h : findL l k = some i) : i < l.length ∧ (nth l i).k = k := by
  induction l generalizing i with
  | nil => exact absurd h (by simp [findL])
  | cons y l ih =>
    rw [findL] at h
    split at h
    · rename_i e
      obtain rfl := Option.some.inj h
      exact ⟨by simp, by rw [show nth (y :: l) 0 = y from nth_some rfl]; exact e⟩
    · cases q : findL l k with
      | none => rw [q] at h; exact absurd h (by simp)
      | some j =>
        rw [q] at h
        obtain rfl := Option.some.inj h
        obtain ⟨a, b⟩ := ih q
        refine ⟨by simpa using a, ?_⟩
        have : nth (y :: l) (j + 1) = nth l j := by
          have := nth_right [y] l j
          rw [List.length_singleton, Nat.add_comm] at this
          exact this
        rw [this]; exact b
theorem findL_mem {l : List It} {x : It} (h : x ∈ l) : ∃ i, findL l x.k = some i := by
  induction l with
  | nil => exact absurd h (by simp)
  | cons y l ih =>
    rw [findL]
    split
    · exact ⟨0, rfl⟩
    · rename_i e
      rcases List.mem_cons.1 h with rfl | h
      · exact absurd rfl e
      · obtain ⟨i, q⟩ := ih h
        exact ⟨i + 1, by rw [q]; rfl⟩
/-- Heaps of items that may be stay so. -/
theorem rightB_push {l : List It} {x : It} (r : rightB l = true) (hx : mayB x = true) : rightB (pushL l x) = true := by
  obtain ⟨a, b⟩ := rightB_iff.1 r
  have x0 : 0 < x.w := (chk_zero.1 (chk_may.2 hx)).2
  refine rightB_iff.2 ⟨List.all_eq_true.2 fun y hy => ?_, pushL_heap b (rightB_may r) x0⟩
  have := (pushL_perm l x).mem_iff.1 hy
  rw [List.mem_append, List.mem_singleton] at this
  rcases this with h | rfl
  · exact List.all_eq_true.1 a y h
  · exact hx
theorem rightB_pop {l : List It} (r : rightB l = true) (h0 : 0 < l.length) : rightB (popL l) = true := by
  obtain ⟨a, b⟩ := rightB_iff.1 r
  exact rightB_iff.2 ⟨List.all_eq_true.2 fun y hy => List.all_eq_true.1 a y ((popL_perm h0).mem_iff.1 (.tail _ hy)), popL_heap b (rightB_may r)⟩
theorem rightB_put {l : List It} {x : It} {i : Nat} (r : rightB l = true) (hx : mayB x = true) (hi : i < l.length) : rightB (putL l i x) = true := by
  obtain ⟨a, b⟩ := rightB_iff.1 r
  have x0 : 0 < x.w := (chk_zero.1 (chk_may.2 hx)).2
  refine rightB_iff.2 ⟨List.all_eq_true.2 fun y hy => ?_, putL_heap b (rightB_may r) x0 hi⟩
  rcases List.mem_or_eq_of_mem_set ((putL_perm hi).mem_iff.1 hy) with h | rfl
  · exact List.all_eq_true.1 a y h
  · exact hx
theorem rightB_nil : rightB [] = true := rightB_iff.2 ⟨rfl, fun k _ h => absurd h (by simp)⟩
/-- The answer holds a list: a slice that reads as it, of no room where it is nothing. -/
def Lst (W : World) (A : Option Addr) (c : Nat) (l : List It) : Prop := Its W A l.length c l ∧ (A = none → c = 0)
/-- What the six calls answer. -/
structure Prog11 : Prop where
  right : ∀ {A : Option Addr} {c : Nat} {l : List It} {w : World}, Lst w A c l → l.length ≤ 1000 → Calls Try.prog 15 #[.slice A l.length c] w fun e w' => e = .returned (.bool (rightB l)) ∧ Below w.heap.size w w'
  find : ∀ {A : Option Addr} {c : Nat} {l : List It} {w : World}, Lst w A c l → l.length ≤ 1000 → ∀ k : ByteArray, Calls Try.prog 13 #[.slice A l.length c, .string k] w fun e w' => e = .returned (.tuple #[.int .i64 (((findA l k).getD 0 : Nat) : Int), .bool (findA l k).isSome]) ∧ Below w.heap.size w w'
  push : ∀ {A : Option Addr} {c : Nat} {l : List It} {w : World}, Lst w A c l → l.length ≤ 1000 → ∀ x : It, x.Fit → Calls Try.prog 10 #[.slice A l.length c, itv x] w fun e w' => ∃ B d, e = .returned (.tuple #[.slice B (pushA l x).1.length d, .int .i64 (pushA l x).2]) ∧ Lst w' B d (pushA l x).1 ∧ Below w.heap.size w w'
  pop : ∀ {A : Option Addr} {c : Nat} {l : List It} {w : World}, Lst w A c l → l.length ≤ 1000 → Calls Try.prog 11 #[.slice A l.length c] w fun e w' => ∃ B d, e = .returned (.tuple #[itv (popA l).1, .slice B (popA l).2.1.length d, .int .i64 (popA l).2.2]) ∧ Lst w' B d (popA l).2.1 ∧ Below w.heap.size w w'
  put : ∀ {A : Option Addr} {c : Nat} {l : List It} {w : World}, Lst w A c l → l.length ≤ 1000 → ∀ (i : Int) (x : It), -9223372036854775808 ≤ i ∧ i ≤ 9223372036854775807 → x.Fit → Calls Try.prog 12 #[.slice A l.length c, .int .i64 i, itv x] w fun e w' => ∃ B d, e = .returned (.tuple #[.slice B (putA l i x).1.length d, .int .i64 (putA l i x).2]) ∧ Lst w' B d (putA l i x).1 ∧ Below w.heap.size w w'
  down : ∀ {A : Option Addr} {c : Nat} {l : List It} {w : World}, Lst w A c l → l.length ≤ 1000 → Calls Try.prog 26 #[.slice A l.length c] w fun e w' => ∃ B d, e = .returned (.slice B (downA l).length d) ∧ Lst w' B d (downA l) ∧ Below w.heap.size w w'
end Go.Proofs.Ytnkhgkpijfohkaa
namespace Go.Proofs.Ytnkhgkpijfohkaa
open Go.RowKit
set_option linter.unusedVariables false
set_option linter.unusedSimpArgs false
set_option maxHeartbeats 2000000
set_option maxRecDepth 100000
theorem above_any {i j : Nat} (h0 : 0 < i) (hj : j = (i - 1) / 2) (hi : i ≤ 1000000) (w : World) : Calls Try.prog 33 #[.int .i64 (i : Int)] w fun e w' => e = .returned (.int .i64 (j : Int)) ∧ w = w' := by
  obtain ⟨i', hi'⟩ : ∃ i', i = i' + 1 := ⟨i - 1, by omega⟩
  have e2 : IntKind.i64.wrap ((i : Int) - 1) = (i' : Int) := by rw [IntKind.wrap_i64]; omega
  have e3 : Int.tdiv (i' : Int) 2 = (j : Int) := by rw [Int.tdiv_eq_ediv_of_nonneg (by omega)]; omega
  have e4 : (i' : Int) / 2 = (j : Int) := by omega
  have e5 : IntKind.i64.wrap (j : Int) = (j : Int) := by rw [IntKind.wrap_i64]; omega
  clear h0 hj hi hi'
  go_enter Try.func33, Try.ntmps33
  go_wp2_with fail
  go_ret
  exact ⟨rfl, rfl⟩
theorem behind_any (KC : CmpOk) (x y : It) (fx : x.Fit) (fy : y.Fit) (w : World) : Calls Try.prog 32 #[itv x, itv y] w fun e w' => e = .returned (.bool (decide (0 < cmpI x y))) ∧ Below w.heap.size w w' := by
  have K := Lib.hid (fun W => KC x y fx fy W)
  generalize cmpI x y = cc at *
  clear fx fy KC
  obtain ⟨ak, au, aw⟩ := x
  obtain ⟨bk, bu, bw⟩ := y
  have D := Duo.new w #[.string ak, .int .u64 (au : Int), .int .u64 (aw : Int)] #[.string bk, .int .u64 (bu : Int), .int .u64 (bw : Int)] 25 25
  obtain ⟨g, hg⟩ : ∃ g, w.heap.size = g := ⟨_, rfl⟩
  rw [hg] at D
  obtain ⟨a0, a1, a2⟩ := D.bg.three
  obtain ⟨b0, b1, b2⟩ := D.br.three
  have BW := Lib.hid D.bl
  clear D
  go_enter Try.func32, Try.ntmps32
  go_wp2_with fail
  refine (K.out _).mono ?_
  rintro e z ⟨rfl, BZ⟩
  have BL := Lib.hid (below_step BW.out BZ)
  clear a0 a1 a2 b0 b1 b2 BZ K
  go_wp2_with fail
  go_ret
  exact ⟨rfl, BL.out⟩
theorem Row3.front {W : World} {ad : Addr} {s : List It} (h : Row3 W ad s) (m : Nat) : Row3 W ad (s.take m) := by
  obtain ⟨cs, t, e, hc⟩ := h.own
  refine ⟨⟨cs, t, e, fun i u hu => ?_⟩, h.el, fun x hx => h.fit x (List.mem_of_mem_take hx)⟩
  obtain ⟨j, hj, h3⟩ := icells_cell hu
  rw [List.length_take] at hj
  have hj2 : j < s.length := by omega
  obtain ⟨a0, a1, a2⟩ := icells_at s j hj2
  rw [List.getElem_take] at h3
  rcases h3 with ⟨rfl, rfl⟩ | ⟨rfl, rfl⟩ | ⟨rfl, rfl⟩
  · exact hc _ _ a0
  · exact hc _ _ a1
  · exact hc _ _ a2
theorem Tr.front {ad : Addr} {s : List It} {W W' : World} (h : Tr ad s W W') (m : Nat) : Tr ad (s.take m) W W' := ⟨h.row.front m, h.os, h.tape, h.output, h.size, h.block⟩
/-- How far the one at i has been lifted. -/
structure LiftInv (s : List It) (i k : Nat) (cur : List It) : Prop where
  same : liftL cur k = liftL s i
  len : cur.length = s.length
  le : k ≤ i
  here : k = i → cur = s
  moved : k < i → 0 < i ∧ 0 < cmpI (nth s i) (nth s ((i - 1) / 2))
theorem LiftInv.start (s : List It) (i : Nat) : LiftInv s i i s := ⟨rfl, rfl, Nat.le_refl _, fun _ => rfl, fun h => by omega⟩
theorem LiftInv.step {s cur : List It} {i k : Nat} (h : LiftInv s i k cur) (k0 : 0 < k) (c : 0 < cmpI (nth cur k) (nth cur ((k - 1) / 2))) : LiftInv s i ((k - 1) / 2) (swp cur k ((k - 1) / 2)) := by
  have hl := h.le
  refine ⟨?_, by rw [swp_len]; exact h.len, by omega, fun e => by omega, fun _ => ?_⟩
  · have q := h.same
    rw [liftL, dif_neg (by omega), if_neg (by omega)] at q
    exact q
  · by_cases e : k = i
    · have := h.here e
      subst this e
      exact ⟨k0, c⟩
    · exact h.moved (by omega)
theorem LiftInv.stop {s cur : List It} {i k : Nat} (h : LiftInv s i k cur) (c : ¬ (0 < k ∧ 0 < cmpI (nth cur k) (nth cur ((k - 1) / 2)))) : liftL s i = cur ∧ (k = i ↔ ¬ (0 < i ∧ 0 < cmpI (nth s i) (nth s ((i - 1) / 2)))) := by
  refine ⟨?_, fun e => ?_, fun e => ?_⟩
  · rw [← h.same, liftL]
    split
    · rfl
    · rename_i e
      rw [if_pos]
      have : ¬ 0 < cmpI (nth cur k) (nth cur ((k - 1) / 2)) := fun z => c ⟨by omega, z⟩
      omega
  · have := h.here e
    subst this e
    exact c
  · have := h.le
    by_cases q : k < i
    · exact absurd (h.moved q) e
    · omega
end Go.Proofs.Ytnkhgkpijfohkaa
namespace Go.Proofs.Ytnkhgkpijfohkaa
open Go.RowKit
set_option linter.unusedVariables false
set_option linter.unusedSimpArgs false
set_option maxHeartbeats 4000000
set_option maxRecDepth 100000
theorem lift_any (KC : CmpOk) {ad : Addr} {n c i : Nat} {s : List It} {w : World} (h : Row3 w ad s) (hs : s.length = n) (hi : i < n) (hn : n ≤ 100000) : Calls Try.prog 28 #[.slice (some ad) n c, .int .i64 (i : Int)] w fun e w' => ∃ j : Nat, e = .returned (.int .i64 (j : Int)) ∧ (j = i ↔ ¬ (0 < i ∧ 0 < cmpI (nth s i) (nth s ((i - 1) / 2)))) ∧ Tr ad (liftL s i) w w' := by
  have R0 : Hid (∃ cur, LiftInv s i i cur ∧ Tr ad cur w w) := ⟨s, LiftInv.start s i, Tr.refl h⟩
  have KB := Lib.hid (fun x y fx fy W => behind_any KC x y fx fy W)
  have HS := Lib.hid hs
  clear h hs KC
  go_enter Try.func28, Try.ntmps28
  go_wp2_with fail
  go_loopg [1] i (fun q s1 wr => ∃ k : Nat, s1 = .int .i64 (k : Int) ∧ k ≤ q ∧ k < n ∧ Hid (∃ cur, LiftInv s i k cur ∧ Tr ad cur w wr))
  case atStart => exact ⟨i, rfl, Nat.le_refl _, hi, R0⟩
  case round =>
    obtain ⟨k, rfl, hq, kn, R⟩ := hrel
    clear R0 hi
    obtain ⟨cur, II, T⟩ := R.out
    clear R
    have HQ := Lib.hid hq; have HI := Lib.hid II; have HN := Lib.hid kn
    have hl : cur.length = n := by rw [II.len]; exact HS.out
    clear hq II
    by_cases k0 : 0 < k
    · obtain ⟨j, hj⟩ : ∃ j, j = (k - 1) / 2 := ⟨_, rfl⟩
      have KA := Lib.hid (fun W => above_any k0 hj (by omega) W)
      have jn : j < n := by omega
      have JK := Lib.hid (show j < k by omega)
      have k1 : (0 : Int) < k := by omega
      have p1 : (0 : Int) ≤ (k : Int) := by omega
      have p2 : (k : Int) < n := by omega
      have p3 : (0 : Int) ≤ (j : Int) := by omega
      have p4 : (j : Int) < n := by omega
      have kl : k < cur.length := by omega
      have jl : j < cur.length := by omega
      obtain ⟨x0, x1, x2⟩ := T.row.cell kl
      obtain ⟨y0, y1, y2⟩ := T.row.cell jl
      have K := Lib.hid (KB.out _ _ (T.row.ft kl) (T.row.ft jl))
      have HJ := Lib.hid hj; have HT := Lib.hid T; have KL := Lib.hid kl; have JL := Lib.hid jl
      obtain ⟨x, hx⟩ : ∃ x, x = nth cur k := ⟨_, rfl⟩
      obtain ⟨y, hy⟩ : ∃ y, y = nth cur j := ⟨_, rfl⟩
      rw [← hx] at x0 x1 x2 K
      rw [← hy] at y0 y1 y2 K
      obtain ⟨b, hb⟩ : ∃ b, b = decide (0 < cmpI x y) := ⟨_, rfl⟩
      rw [← hb] at K
      have HX := Lib.hid hx; have HY := Lib.hid hy; have HB := Lib.hid hb
      clear T kl jl hx hy hb hj hl
      go_wp2_with fail
      go_region_held3 (fun w' => w'.cell? (ad.add (k * 3)) = some (.string x.k) ∧ w'.cell? ⟨(ad.add (k * 3)).block, (ad.add (k * 3)).off + 1, none⟩ = some (.int .u64 (x.u : Int)) ∧ w'.cell? ⟨(ad.add (k * 3)).block, (ad.add (k * 3)).off + 2, none⟩ = some (.int .u64 (x.w : Int)) ∧
          w'.cell? (ad.add (j * 3)) = some (.string y.k) ∧ w'.cell? ⟨(ad.add (j * 3)).block, (ad.add (j * 3)).off + 1, none⟩ = some (.int .u64 (y.u : Int)) ∧ w'.cell? ⟨(ad.add (j * 3)).block, (ad.add (j * 3)).off + 2, none⟩ = some (.int .u64 (y.w : Int)))
        ((refine ⟨?_, ?_, ?_, ?_, ?_, ?_⟩ <;> (repeat (first | with_reducible exact x0 | with_reducible exact x1 | with_reducible exact x2 | with_reducible exact y0 | with_reducible exact y1 | with_reducible exact y2 | with_reducible refine keep_drew ?_ | with_reducible refine keep_cell (by assumption) ?_))))
        (first
          | (go_at_call 33; (with_reducible refine (KA.out _).mono ?_); rintro e Zs ⟨rfl, rfl⟩)
          | (go_at_call 32; (with_reducible refine (K.out _).mono ?_); rintro e Zt ⟨rfl, BZ⟩))
      have TZ := Lib.hid (HT.out.drew.next BZ)
      clear x0 x1 x2 y0 y1 y2 HT BZ K
      cases b
      · have EN := Lib.hid (HI.out.stop (by rintro ⟨-, q⟩; rw [← HJ.out, ← HX.out, ← HY.out] at q; exact of_decide_eq_false HB.out.symm q))
        go_wp2_with fail
        go_ret
        refine ⟨k, rfl, EN.out.2, ?_⟩
        rw [EN.out.1]; exact TZ.out
      · have NX := Lib.hid (HI.out.step k0 (by rw [← HJ.out, ← HX.out, ← HY.out]; exact of_decide_eq_true HB.out.symm))
        rw [← HJ.out] at NX
        obtain ⟨x0, x1, x2⟩ := TZ.out.row.cell KL.out
        obtain ⟨y0, y1, y2⟩ := TZ.out.row.cell JL.out
        obtain ⟨fx0, fx1, fx2⟩ := TZ.out.row.melts (k * 3)
        obtain ⟨fy0, fy1, fy2⟩ := TZ.out.row.melts (j * 3)
        obtain ⟨s1, s2, s3, s4, s5⟩ := TZ.out.row.stores KL.out JL.out (by have := JK.out; omega) x y
        have TS := Lib.hid (TZ.out.swap KL.out JL.out).drew
        rw [← HX.out] at x0 x1 x2 s1 s2 TS
        rw [← HY.out] at y0 y1 y2 s3 s4 s5 TS
        clear TZ
        go_upto_region 2 with fail
        go_cut [1] (fun s1 wx => s1 = .int .i64 (k : Int) ∧ Hid (Tr ad (swp cur k j) w wx))
        case first =>
          go_region_with (first | (go_at_call 33; refine (KA.out _).mono ?_; rintro e Zs ⟨rfl, rfl⟩))
          all_goals (go_wp2_with fail; go_meet; exact ⟨rfl, TS⟩)
        case rest =>
        obtain ⟨rfl, TS⟩ := hcut
        clear s1 s2 s3 s4 s5 x0 x1 x2 y0 y1 y2 fx0 fx1 fx2 fy0 fy1 fy2
        go_wp2_with fail
        refine (KA.out _).mono ?_
        rintro e Zs ⟨rfl, rfl⟩
        go_wp2_with fail
        go_roundg j
        case measure => have := HQ.out; have := JK.out; omega
        case rel =>
          go_light
          exact ⟨j, rfl, Nat.le_refl _, jn, ⟨_, NX.out, TS.out⟩⟩
    · obtain rfl : k = 0 := by omega
      have k1 : ¬ (0 : Int) < ((0 : Nat) : Int) := by decide
      have k2 : decide ((0 : Int) < ((0 : Nat) : Int)) = false := rfl
      have k3 : decide (((0 : Nat) : Int) > (0 : Int)) = false := rfl
      have k4 : decide ((0 : Int) > (0 : Int)) = false := rfl
      have EN := Lib.hid (HI.out.stop (by rintro ⟨q, -⟩; omega))
      have TD := Lib.hid T.drew
      clear T
      go_wp2_with fail
      go_region
      generalize wr.drew = Zt at *
      go_wp2_with fail
      go_ret
      refine ⟨0, rfl, EN.out.2, ?_⟩
      rw [EN.out.1]; exact TD.out
end Go.Proofs.Ytnkhgkpijfohkaa
