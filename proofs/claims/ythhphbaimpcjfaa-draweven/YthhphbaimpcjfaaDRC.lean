/- The document's answers: the walk of Below: its loops. -/
import Derived.Test.YthhphbaimpcjfaaDRB
namespace Go.Proofs.Ythhphbaimpcjfaa
open Go.RowKit
set_option linter.unusedVariables false
set_option linter.unusedSimpArgs false
set_option maxHeartbeats 4000000
set_option maxRecDepth 100000
/-- What is in the loops of an attempt: t halves of the words behind a. -/
structure Hav (w : World) (N k t : Nat) (v : Value) (wr : World) : Prop where
  hs : ∃ hs, hs.length = t ∧ Ld hs ∧ hval hs = N % 2 ^ min (16 * t) k ∧ wr.ownsRow w.heap.size 23 1 v t (hs.map hv)
  bl : Below w.heap.size w wr
theorem Hav.start (w : World) (N k : Nat) : Hav w N k 0 (.slice none 0 0) w := ⟨⟨[], rfl, .nil, by simp [hval_nil, Nat.mod_one], World.ownsRow_nil w _ _ _⟩, Below.refl _ _⟩
theorem Hav.step {w : World} {N k t x : Nat} {v v2 : Value} {wr w2 : World} {o : Obj} {hs : List Nat} (hl : hs.length = t) (ld : Ld hs) (hval_ : hval hs = N % 2 ^ min (16 * t) k) (own : wr.ownsRow w.heap.size 23 1 v t (hs.map hv)) (bl : Below w.heap.size w wr)
    (hx : x % 65536 = N / 2 ^ (16 * t) % 65536) (hown : w2.ownsRow w.heap.size 23 1 v2 (t + 1) (hs.map hv ++ [hv (hfd x (k - 16 * t))])) (hg : (wr.alloc o).grownBy w2 v.ownBlock) : Hav w N k (t + 1) v2 w2 := by
  refine ⟨⟨hs ++ [hfd x (k - 16 * t)], by simp [hl], ld.append (.cons (hfd_lt _ _) .nil), ?_, by simpa using hown⟩, ?_⟩
  · rw [hval_snoc, hl]; exact hfd_step hval_ hx
  · exact (bl.alloc bl.size o).grown hg (by have := bl.size; simp; omega) (own_base own)
theorem Box.no_limb {w : World} {r : Nat} {A : Option Addr} {n c : Nat} {p : Int} (h : Box w r #[.slice A n c, .int .i64 p]) {q : Addr} {x : Nat} (hc : w.cell? q = some (lv x)) : q.block ≠ r := by
  intro e
  obtain ⟨t, h⟩ := h
  unfold World.cell? at hc
  rw [e, h] at hc
  simp only at hc
  split at hc
  · cases hc
  · rcases ho : q.off with _ | _ | o <;> rw [ho] at hc <;> simp at hc
theorem Box.no_limb_at {w : World} {r : Nat} {A : Option Addr} {n c : Nat} {p : Int} (h : Box w r #[.slice A n c, .int .i64 p]) {A3 : Option Addr} {n3 c3 : Nat} {xs : List Nat} (l : Lim w A3 n3 c3 xs) (hn : 0 < n3) {ad : Addr} (e : A3 = some ad) : ad.block ≠ r := by
  obtain ⟨ad', e', hc⟩ := l.at_ 0 (by rw [l.len]; exact hn)
  rw [e] at e'
  injection e' with e'
  subst e'
  have := h.no_limb hc
  rwa [block_add] at this
theorem ln_att (W : List Nat) (c k p K : Nat) (h : k ≤ 32 * K) : ln (att W c k p) ≤ K := by
  refine ln_le ?_
  rw [B_pow]
  exact Nat.lt_of_lt_of_le (Nat.mod_lt _ (Nat.two_pow_pos k)) (Nat.pow_le_pow_right (by decide) h)
theorem hfd_low (x q : Nat) (h : q < 16) : ∃ z : Nat, IntKind.u64.wrap ((2 : Int) ^ q) = (z : Int) ∧ 0 < z ∧ hv (hfd x q) = Value.int IntKind.u64 ((x : Int) % 65536 % (z : Int)) := by
  have e : (2 : Int) ^ q = ((2 ^ q : Nat) : Int) := by rw [Int.natCast_pow]; rfl
  have l := pow16_le q (by omega)
  have p := Nat.two_pow_pos q
  refine ⟨2 ^ q, ?_, p, congrArg (Value.int .u64) ?_⟩
  · rw [e, IntKind.wrap_u64]; generalize 2 ^ q = z at *; omega
  · rw [hfd_eq, Nat.min_eq_right (by omega)]; rfl
theorem hfd_high (x q : Nat) (h : 16 ≤ q) : hv (hfd x q) = Value.int IntKind.u64 ((x : Int) % 65536) := by
  refine congrArg (Value.int .u64) ?_
  rw [hfd_eq, Nat.min_eq_left h, show (2 : Nat) ^ 16 = 65536 from by decide, Nat.mod_mod]
  rfl
theorem refBelow_many {A Ab : Option Addr} {n c nb cb d i0 : Nat} {W0 : List Nat} {w : World} (HW : Wl w A n c W0) (HB : Lim w Ab nb cb (limbs d)) (ld : ln d ≤ 64) (hd : d ≠ 0) (hi0 : i0 ≤ n) :
    Calls Try.prog 11 #[wds A n c (i0 : Int), .slice Ab nb cb] w fun e w' => RetB A n c (ans W0 (i0 : Int) d) w e w' := by
  have hn : n ≤ 9223372036854775807 := Nat.le_trans HW.cap HW.top
  have KN : Hid (∀ W : World, Below w.heap.size w W → Calls Try.prog 22 #[.slice Ab nb cb] W fun e w' => e = .returned (.bool true) ∧ W = w') := fun W hb => refRight_yes (HB.next hb) ld
  have hnb : nb = ln d := by
    have := HB.len
    rw [limbs_length] at this
    exact this.symm
  have KM : Hid (∀ W : World, Below w.heap.size w W → Calls Try.prog 23 #[.slice Ab nb cb] W fun e w' => e = .returned (.int .i64 (mb d)) ∧ Below W.heap.size W w') := fun W hb => refMask_any (HB.next hb) hd (by omega)
  have KC : Hid (∀ (W : World) A1 n1 c1 v, Below w.heap.size w W → Lim W A1 n1 c1 (limbs v) → ln v ≤ 100000 → Calls Try.prog 25 #[.slice A1 n1 c1, .slice Ab nb cb] W fun e w' => e = .returned (.int .i64 (sgn v d)) ∧ ∃ m, w' = W.drewN m) := fun W A1 n1 c1 v hb h1 h2 => refCmp_any h1 (HB.next hb) h2 (by omega)
  have hz : ((nb : Int) == 0) = false := by
    have := ln_pos hd
    simp; omega
  have hml := ml_le ld
  have hk : mb d ≤ 2048 := by unfold ml at hml; omega
  have HMW : Hid (mw d = (mb d + 63) / 64) := rfl
  have HN : Hid (W0.length = n) := HW.len
  have HD := Lib.hid hd
  have FIN : Hid (∀ i, tries W0 (mw d) (mb d) d i = tries W0 (mw d) (mb d) d i0 → ∀ v q, tries W0 (mw d) (mb d) d i = some (v, q) → ans W0 (i0 : Int) d = (v, (q : Int), 0)) := by
    intro i h v q hv
    exact ans_hit hd (by rw [HN.out]; exact hi0) (by rw [← h, hv])
  have DRY : Hid (∀ i, tries W0 (mw d) (mb d) d i = tries W0 (mw d) (mb d) d i0 → ¬ i + mw d ≤ n → ans W0 (i0 : Int) d = (0, (i0 : Int), 8)) := by
    intro i h k
    refine ans_dry hd (by rw [HN.out]; exact hi0) ?_
    rw [← h]
    exact tries_dry (by rw [HN.out]; exact k)
  have NEXT : Hid (∀ i, i + mw d ≤ n → tries W0 (mw d) (mb d) d i = tries W0 (mw d) (mb d) d i0 → ¬ att W0 (mw d) (mb d) i < d → 0 < mw d ∧ tries W0 (mw d) (mb d) d (i + mw d) = tries W0 (mw d) (mb d) d i0) := by
    intro i lt h l
    have D1 : d ≠ 1 := by
      intro e
      subst e
      rw [mb_one, att_zero] at l
      exact l (by decide)
    have MP : 0 < mw d := mw_pos (by omega)
    refine ⟨MP, ?_⟩
    rw [← h]
    exact (tries_next (by rw [HN.out]; exact lt) l MP).symm
  have ATT : Hid (∀ i, i + mw d ≤ n → att W0 (mw d) (mb d) i = wv (W0.drop i) % 2 ^ mb d) := fun i h => att_all (by have := HMW.out; omega) (by rw [HN.out]; exact h)
  have HIT : Hid (∀ i, i + mw d ≤ n → tries W0 (mw d) (mb d) d i = tries W0 (mw d) (mb d) d i0 → att W0 (mw d) (mb d) i < d → ans W0 (i0 : Int) d = (att W0 (mw d) (mb d) i, ((i + mw d : Nat) : Int), 0)) := fun i lt h l => FIN.out i h _ _ (tries_hit (by rw [HN.out]; exact lt) l)
  obtain ⟨i1, hi, hz0, hz1, hz2⟩ := info_parts info_u64
  have HI := Lib.hid hi; have HZ0 := Lib.hid hz0; have HZ1 := Lib.hid hz1; have HZ2 := Lib.hid hz2
  have HW := Lib.hid HW
  clear HB ld hd hnb hml hi hz0 hz1 hz2
  obtain ⟨p, hp⟩ : ∃ p : Int, p = (i0 : Int) := ⟨_, rfl⟩
  rw [← hp] at FIN DRY HIT ⊢
  have HP := Lib.hid hp
  have hp0 : ¬ p < 0 := by omega
  have hp1 : ¬ (n : Int) < p := by omega
  clear hp
  generalize mb d = k at *
  generalize mw d = m at *
  obtain ⟨g, hg⟩ : ∃ g, w.heap.size = g := ⟨_, rfl⟩
  have M := Two.new w #[.slice A n c, .int .i64 p] #[.slice none 0 0, .int .i64 0] 29 29
  rw [hg] at M
  go_enter Try.func11, Try.ntmps11
  go_wp2_with fail
  clear hg
  generalize (w.alloc (Obj.cells #[Value.slice A n c, Value.int IntKind.i64 p] 29)).alloc (Obj.cells #[Value.slice none 0 0, Value.int IntKind.i64 0] 29) = W at *
  generalize g + 1 = r at *
  refine (KN.out W M.bl).mono ?_
  rintro e W1 ⟨rfl, rfl⟩
  obtain ⟨c0, c1⟩ := M.bg.two
  obtain ⟨k0, k1⟩ := M.br.two
  have m0 := M.br.melt 0; have m1 := M.br.melt 1
  go_wp2_with fail
  clear c0 c1 k0 k1 m0 m1
  refine (KM.out W M.bl).mono ?_
  rintro e W2 ⟨rfl, B2⟩
  replace M := M.next B2
  clear B2
  obtain ⟨c0, c1⟩ := M.bg.two
  obtain ⟨k0, k1⟩ := M.br.two
  have m0 := M.br.melt 0; have m1 := M.br.melt 1
  go_wp2_with fail
  clear c0 c1 k0 k1 m0 m1
  clear hp0 hp1
  go_loopg [8] (n - i0) (fun q s8 wr => ∃ a : Nat, a + q = n ∧ s8 = .int .i64 (a : Int) ∧ Hid (tries W0 m k d a = tries W0 m k d i0) ∧ Two w g r #[.slice A n c, .int .i64 p] #[.slice none 0 0, .int .i64 0] wr)
  case atStart => exact ⟨i0, by omega, by rw [HP.out], rfl, M⟩
  case round =>
    clear M
    obtain ⟨a, hq, rfl, ht, M⟩ := hrel
    have HQ := Lib.hid hq
    have HA : a ≤ n := by omega
    obtain ⟨X, rfl⟩ : ∃ X, X = gk := ⟨_, rfl⟩
    obtain ⟨wa, rfl⟩ : ∃ wa, wa = wr := ⟨_, rfl⟩
    obtain ⟨N, hN⟩ : ∃ N, Hid (N = wv (W0.drop a)) := ⟨_, rfl⟩
    have S0 := Hav.start wa N k
    have WR := Lib.hid M
    clear M
    go_wp2_with fail
    go_loopg [8, 9, 10] k (fun q s8 s9 s10 wq => ∃ b e : Nat, Hid (e = a + b) ∧ s8 = .int .i64 (e : Int) ∧ s10 = .int .i64 (q : Int) ∧ Hid (q = k - 64 * b) ∧ Hid (b = 0 ∨ 64 * (b - 1) < k) ∧ Hid (e ≤ n) ∧ Hav wa N k (4 * b) s9 wq)
    case atStart => exact ⟨0, a, rfl, rfl, rfl, (by unfold Hid; omega), Or.inl rfl, HA, S0⟩
    case round =>
      clear S0
      obtain ⟨b, e, he, rfl, rfl, hl, hb, hen, S⟩ := hrel
      obtain ⟨Y, rfl⟩ : ∃ Y, Y = gk := ⟨_, rfl⟩
      obtain ⟨wb, rfl⟩ : ∃ wb, wb = wr := ⟨_, rfl⟩
      by_cases hY : Y = 0
      · subst hY
        have ebm : b = m := by have := HMW.out; have := hl.out; have := hb.out; omega
        have EA : Hid (e = a + m) := by unfold Hid; rw [← ebm]; exact he.out
        have LE : Hid (a + m ≤ n) := by unfold Hid; rw [← EA.out]; exact hen.out
        obtain ⟨hs, sl, sd, sv, so⟩ := S.hs
        obtain ⟨A2, c2, g2, z2, rfl, gb2, _, R2⟩ := own_any so
        have HS := hl_of (fun q => (R2 q).1) (fun q => (R2 q).2.2) sl
        have KW := whole_at (c := c2) (n := 2 * b) (by omega) HS sd (by have := HMW.out; omega)
        rw [sv, show min (16 * (4 * b)) k = k by have := hl.out; omega, hN.out, ← ATT.out a LE.out] at KW
        have KW := Lib.hid KW
        have LA : Hid (ln (att W0 m k a) ≤ 64) := ln_att W0 m k a 64 (by omega)
        have MB := Lib.hid (WR.out.next S.bl)
        clear S sl sd sv so R2 HS ebm
        by_cases l : att W0 m k a < d
        · have TE := Lib.hid (HIT.out a LE.out ht.out l)
          have EL := Lib.hid (sgn_lt l)
          generalize att W0 m k a = v at *
          clear l
          go_wp2_with fail
          refine KW.out.mono ?_
          rintro e3 w3 ⟨A3, n3, c3, rfl, L3, B3⟩
          go_wp2_with fail
          have M := MB.out.next B3
          clear B3
          refine (KC.out _ _ _ _ _ M.bl L3 (by have := LA.out; omega)).mono ?_
          rintro e4 w4 ⟨rfl, mm, rfl⟩
          rw [EL.out]
          replace M := M.next (below_drewN (Below.refl _ _) mm)
          replace L3 := L3.drewN mm
          generalize w3.drewN mm = w6 at *
          obtain ⟨c0, c1⟩ := M.bg.two
          obtain ⟨k0, k1⟩ := M.br.two
          have m0 := M.br.melt 0; have m1 := M.br.melt 1
          go_wp2_with fail
          go_region
          all_goals go_wp2_with fail
          clear c0 c1 k0 k1 m0 m1
          have TR : Turn w6 (((w6.setCell ⟨r, 0, none⟩ (.slice A n c)).setCell ⟨r, 1, none⟩ (.int .i64 (e : Int))).drew) r := ((((Turn.refl w6 r).setCell 0 _).setCell 1 _).drew)
          have L9 := turn_lim TR L3 (fun ad q1 q2 => M.br.no_limb_at L3 q2 q1)
          clear TR
          replace M := (M.put2 (.slice A n c) (.int .i64 (e : Int))).drew
          generalize ((w6.setCell ⟨r, 0, none⟩ (.slice A n c)).setCell ⟨r, 1, none⟩ (.int .i64 (e : Int))).drew = W9 at *
          obtain ⟨z0, z1⟩ := M.br.two
          refine bodyPost_ret (v := .tuple #[.slice A3 n3 c3, .agg #[.slice A n c, (.int .i64 (e : Int))], .int .i64 0]) (by simp [results, Try.results11, go_sem, z0, z1]) rfl ?_
          exact retB_some (by rw [TE.out, EA.out]) M.bl L9
        · obtain ⟨MP, TN⟩ := NEXT.out a LE.out ht.out l
          have MP := Lib.hid MP
          have TN := Lib.hid TN
          have EG : Hid (¬ sgn (att W0 m k a) d < 0) := by
            unfold Hid
            by_cases e : att W0 m k a = d
            · rw [e, sgn_eq]; decide
            · rw [sgn_gt (by omega)]; decide
          generalize att W0 m k a = v at *
          clear l
          go_wp2_with fail
          refine KW.out.mono ?_
          rintro e3 w3 ⟨A3, n3, c3, rfl, L3, B3⟩
          go_wp2_with fail
          have M := MB.out.next B3
          clear B3
          refine (KC.out _ _ _ _ _ M.bl L3 (by have := LA.out; omega)).mono ?_
          rintro e4 w4 ⟨rfl, mm, rfl⟩
          have EL := EG.out
          replace M := M.next (below_drewN (Below.refl _ _) mm)
          replace L3 := L3.drewN mm
          generalize w3.drewN mm = w6 at *
          clear L3
          go_wp2_with fail
          go_roundg (X - m)
          case measure => have := HQ.out; have := MP.out; have := LE.out; omega
          case rel =>
            go_light
            exact ⟨e, by have := HQ.out; have := EA.out; have := LE.out; omega, rfl, (by unfold Hid; rw [EA.out]; exact TN.out), M⟩
      · have hY0 : (0 : Int) < Y := by omega
        have hYn : 0 < Y := by omega
        have M := WR.out.next S.bl
        by_cases hE : e = n
        · obtain rfl := hE.symm
          have TE := Lib.hid (DRY.out a ht.out (by have := HMW.out; have := he.out; have := hl.out; omega))
          have HL := Lib.hid hl.out
          clear S
          obtain ⟨c0, c1⟩ := M.bg.two
          obtain ⟨k0, k1⟩ := M.br.two
          have m0 := M.br.melt 0; have m1 := M.br.melt 1
          go_wp2_with fail
          go_region
          all_goals go_wp2_with fail
          clear c0 c1 k0 k1 m0 m1
          replace M := (M.put2 (.slice A n c) (.int .i64 p)).drew
          generalize ((wb.setCell ⟨r, 0, none⟩ (.slice A n c)).setCell ⟨r, 1, none⟩ (.int .i64 p)).drew = W9 at *
          obtain ⟨z0, z1⟩ := M.br.two
          refine bodyPost_ret (v := .tuple #[.slice none 0 0, .agg #[.slice A n c, (.int .i64 p)], .int .i64 8]) (by simp [results, Try.results11, go_sem, z0, z1]) rfl ?_
          exact by rw [TE.out]; exact retB_none M.bl
        · have hE2 : ((e : Int) == (n : Int)) = false := by simp; omega
          have el : (e : Int) < n := by have := hen.out; omega
          have el0 : (0 : Int) ≤ e := by omega
          have ex : e < W0.length := by rw [HN.out]; omega
          obtain ⟨ad, rfl, cx⟩ := (HW.out.next M.bl).at_ e ex
          have bx := HW.out.lo.at_ e ex
          have HX : Hid (∀ j, j < 4 → W0[e] / 65536 ^ j % 65536 = N / 2 ^ (16 * (4 * b + j)) % 65536) := by
            intro j hj
            rw [hN.out]
            have q := wv_half (HW.out.lo.drop a) b j (by simp; have := he.out; omega) hj
            rw [q, List.getElem_drop]
            simp only [← he.out]
          generalize W0[e] = x at *
          obtain ⟨c0, c1⟩ := M.bg.two
          have SS := S
          clear S
          have HY := Lib.hid hY
          have HE := Lib.hid hE
          go_wp2_with fail
          clear c0 c1 cx
          go_loopg [9, 10, 11, 12] 4 (fun q s9 s10 s11 s12 w3 => ∃ j lq xx t : Nat, j + q = 4 ∧ s12 = .int .i64 (j : Int) ∧ s10 = .int .i64 (lq : Int) ∧ Hid (lq = k - 16 * t) ∧ Hid (t = 4 * b + j) ∧ s11 = .int .u64 (xx : Int) ∧ xx < 18446744073709551616 ∧ Hid (xx = x / 65536 ^ j) ∧ Hav wa N k t s9 w3)
          case atStart => exact ⟨0, Y, x, 4 * b, rfl, rfl, rfl, (by unfold Hid; have := hl.out; omega), rfl, rfl, bx, (by unfold Hid; rw [Nat.pow_zero, Nat.div_one]), SS⟩
          case round =>
            clear SS M
            obtain ⟨j, lq, xx, t, hj, rfl, rfl, hlq, hte, rfl, bxx, hxx, S⟩ := hrel
            have HJ := Lib.hid hj
            have HKB := Lib.hid hk
            by_cases lj : j < 4
            · have ij : (j : Int) < 4 := by omega
              obtain ⟨hs, sl, sd, sv, so⟩ := S.hs
              have hb2 : wa.heap.size ≤ wr.heap.size := S.bl.size
              have lb : lq ≤ 2048 := by have := hlq.out; omega
              have tk : t < 1000000 := by
                have := hte.out
                have := hb.out
                omega
              have EX : Hid (xx % 65536 = N / 2 ^ (16 * t) % 65536) := by
                unfold Hid
                rw [hxx.out, hte.out]
                exact HX.out j lj
              have KS : Hid (∀ (v2 : Value) (w2 : World) (o : Obj), w2.ownsRow wa.heap.size 23 1 v2 (t + 1) (hs.map hv ++ [hv (hfd xx lq)]) → (wr.alloc o).grownBy w2 (Value.ownBlock u9) → Hav wa N k (t + 1) v2 w2) := by
                intro v2 w2 o h1 h2
                refine Hav.step sl sd sv so S.bl EX.out ?_ h2
                rw [← hlq.out]
                exact h1
              have SO := Lib.hid so
              have HB2 := Lib.hid hb2
              have EY : Hid (xx / 65536 = x / 65536 ^ (j + 1)) := by unfold Hid; rw [hxx.out, shift_word]
              have BY : Hid (xx / 65536 < 18446744073709551616) := by unfold Hid; omega
              clear S sl sd sv so hj EX lj
              by_cases l16 : lq < 16
              · have i16 : (lq : Int) < 16 := by omega
                obtain ⟨z, E5, hz0, E3r⟩ := hfd_low xx lq l16
                have hz1 : (0 : Int) < z := by omega
                have hz2 : ((z : Int) == 0) = false := by simp; omega
                have E3 := Lib.hid E3r
                clear E3r
                have EL : Hid (0 = k - 16 * (t + 1)) := by unfold Hid; have := hlq.out; omega
                clear l16 hlq
                go_wp2_with (at_builtin; refine wpList_append_own _ rfl _ _ 22 rfl wa.heap.size 23 i1 (.int .u64 0) 1 8 Try.underlying22 HI.out HZ0.out HZ1.out HZ2.out rfl (by decide) _ t (hs.map hv) rfl (SO.out.alloc _) ⟨wr.heap.size, 0, none⟩ 1 1 [hv (hfd xx lq)] rfl rfl ?qc2 ?qc3 ?qc4 ?qc5 ?qc6 ?_)
                case qc2 => (rw [E3.out]; first | exact cell_one_new wr _ _ | exact fun _ _ h => h)
                case qc3 => first | (intro u hu; rw [List.mem_singleton] at hu; rw [hu]; rfl) | rfl
                case qc4 => unfold maxLen; omega
                case qc5 => omega
                case qc6 => first | omega | (simp; omega)
                intro v2 w2 hown hg _
                have STh := Lib.hid (KS.out v2 w2 _ hown hg)
                clear hown hg
                go_wp2_with fail
                go_roundg (gk - 1)
                case measure => have := HJ.out; omega
                case rel =>
                  go_light
                  exact ⟨j + 1, 0, xx / 65536, t + 1, by have := HJ.out; omega, by go_num, by first | rfl | go_num, EL.out, (by unfold Hid; have := hte.out; omega), by go_num, BY.out, EY.out, STh.out⟩
              · have i16 : ¬ (lq : Int) < 16 := by omega
                have E3 := Lib.hid (hfd_high xx lq (by omega))
                have EL : Hid (lq - 16 = k - 16 * (t + 1)) := by unfold Hid; have := hlq.out; omega
                have l17 : 16 ≤ lq := by omega
                clear l16 hlq
                go_wp2_with (at_builtin; refine wpList_append_own _ rfl _ _ 22 rfl wa.heap.size 23 i1 (.int .u64 0) 1 8 Try.underlying22 HI.out HZ0.out HZ1.out HZ2.out rfl (by decide) _ t (hs.map hv) rfl (SO.out.alloc _) ⟨wr.heap.size, 0, none⟩ 1 1 [hv (hfd xx lq)] rfl rfl ?qc2 ?qc3 ?qc4 ?qc5 ?qc6 ?_)
                case qc2 => (rw [E3.out]; first | exact cell_one_new wr _ _ | exact fun _ _ h => h)
                case qc3 => first | (intro u hu; rw [List.mem_singleton] at hu; rw [hu]; rfl) | rfl
                case qc4 => unfold maxLen; omega
                case qc5 => omega
                case qc6 => first | omega | (simp; omega)
                intro v2 w2 hown hg _
                have STh := Lib.hid (KS.out v2 w2 _ hown hg)
                clear hown hg
                go_wp2_with fail
                go_roundg (gk - 1)
                case measure => have := HJ.out; omega
                case rel =>
                  go_light
                  exact ⟨j + 1, lq - 16, xx / 65536, t + 1, by have := HJ.out; omega, by go_num, congrArg (Value.int .i64) (by omega), EL.out, (by unfold Hid; have := hte.out; omega), by go_num, BY.out, EY.out, STh.out⟩
            · obtain rfl : 4 = j := by omega
              have ij : ¬ ((4 : Nat) : Int) < 4 := by decide
              have SH := Lib.hid S
              clear S hj lj
              go_wp2_with fail
              go_roundg lq
              case measure => have := hlq.out; have := hte.out; have := hl.out; have := HY.out; omega
              case rel =>
                go_light
                refine ⟨b + 1, e + 1, (by unfold Hid; have := he.out; omega), by go_num, rfl, (by unfold Hid; have := hlq.out; have := hte.out; omega), (by unfold Hid; have := hl.out; have := HY.out; omega), (by unfold Hid; have := hen.out; have := HE.out; omega), ?_⟩
                have et : 4 * (b + 1) = t := by have := hte.out; omega
                rw [et]
                exact SH.out
end Go.Proofs.Ythhphbaimpcjfaa
