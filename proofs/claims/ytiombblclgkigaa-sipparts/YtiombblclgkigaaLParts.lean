/- For every seed and every texts the law SipParts answers true: a text that is written in any parts has the hash of the whole; behind each part the four numbers, the Tail and N are what the document says. No condition. -/
import Derived.Test.YtiombblclgkigaaSAW
import Derived.Test.YtiombblclgkigaaSLD
import Derived.Test.YtiombblclgkigaaSOT
import Derived.Test.YtiombblclgkigaaSQ
import Derived.Test.YtiombblclgkigaaSRC
import Derived.Test.YtiombblclgkigaaSRD
namespace Go.Proofs.Ytiombblclgkigaa.sipParts
open Go.ChangeShapes Go.WideShapes Go.ChangeAt Go.RowKit
open Go.Proofs.Ytiombblclgkigaa
set_option linter.unusedVariables false
set_option linter.unusedSimpArgs false

/-- The numbers, the bytes behind, and how many there are. -/
theorem of_parts (p q : BitVec 64) (s : ByteArray) (m : Nat) (hm : m = s.size / 8) : Hs.of p q (L s) = ⟨eightsN m (start p q) (L s), s.extract (8 * m) s.size, (s.size : Int)⟩ := by
  have e : s.extract (8 * m) s.size = bs (rest (L s)) := by
    rw [← bs_L (s.extract (8 * m) s.size), L_drop]
    unfold rest
    rw [L_len, hm]
  unfold Hs.of eights
  rw [e, L_len, hm]

set_option maxHeartbeats 8000000 in
set_option maxRecDepth 100000 in
theorem walk (p q : BitVec 64) {A : Option Addr} {n c : Nat} {ss : List ByteArray} {w : World} (hT : Txs w A n c ss) : Calls Try.prog 4 #[seed p q, .slice A n c] w fun e w' => e = .returned (.bool true) ∧ Below w.heap.size w w' := by
  have T1 := hT.len; have T2 := hT.cap; have T3 := hT.top
  by_cases big : 20 < n
  · have b1 : (20 : Int) < n := by omega
    go_enter Try.func4, Try.ntmps4
    go_wp2_with fail
    refine (awake_any _).mono ?_
    rintro e y ⟨rfl, hy⟩
    go_wp2_with fail
    go_ret
    exact ⟨rfl, below_step ((Below.refl _ _).alloc (Nat.le_refl _) _) hy⟩
  have b1 : ¬ (20 : Int) < n := by omega
  have HT := Lib.hid hT
  have KN := Lib.hid (new_any p q)
  rw [← Hs.of_nil] at KN
  obtain ⟨⟨⟨a0, a1, a2, a3⟩, t0, n0⟩, h0⟩ : ∃ h, Hid (h = Hs.of p q []) := ⟨_, Lib.hid rfl⟩
  rw [← h0.out] at KN
  clear hT
  go_enter Try.func4, Try.ntmps4
  go_wp2_with fail
  refine (KN.out _).mono ?_
  rintro e W1 ⟨rfl, B⟩
  have M := (One.new w #[.int .u64 (I p), .int .u64 (I q)] 24).next B
  clear B
  obtain ⟨g, hg⟩ : ∃ g, g = w.heap.size := ⟨_, rfl⟩
  rw [← hg] at M
  rw [← hg]
  clear hg
  go_upto_region 4 with fail
  replace M := M.two #[.int .u64 (I a0), .int .u64 (I a1), .int .u64 (I a2), .int .u64 (I a3), .string t0, .int .i64 n0] 31
  generalize W1.alloc (.cells #[.int .u64 (I a0), .int .u64 (I a1), .int .u64 (I a2), .int .u64 (I a3), .string t0, .int .i64 n0] 31) = W2 at *
  obtain ⟨r, hr⟩ : ∃ r, r = W1.heap.size := ⟨_, rfl⟩
  rw [← hr] at M
  rw [← hr]
  clear hr
  replace M : Two w g r #[.int .u64 (I p), .int .u64 (I q)] (Hs.of p q (L ⟨#[]⟩)).cells W2 := by rw [show Hs.of p q (L ⟨#[]⟩) = Hs.of p q [] from rfl, ← h0.out]; exact M
  clear h0 KN
  go_wp2_with fail
  go_loopg [6, 18] n (fun k s6 s18 wr => ∃ (i : Nat) (al : ByteArray), i + k = n ∧ s18 = .int .i64 (i : Int) ∧ s6 = .string al ∧ al.size ≤ 60 * i ∧ Two w g r #[.int .u64 (I p), .int .u64 (I q)] (Hs.of p q (L al)).cells wr)
  case atStart => exact ⟨0, _, by omega, rfl, rfl, by decide, M⟩
  case round =>
    clear M
    obtain ⟨i, al, hq, rfl, rfl, hal, M⟩ := hrel
    have HQ := Lib.hid hq
    have HAL := Lib.hid hal
    have LL := L_len al
    have okl := Hs.of_ok p q (L al)
    have KD0 := Lib.hid (done_yes _ okl (by show ((L al).length : Int) < _; omega))
    have KS0 := Lib.hid (sum_any p q al (by omega))
    rw [Hs.of_fin] at KD0
    by_cases lt : i < n
    · have i1 : (i : Int) < n := by omega
      have i0 : (0 : Int) ≤ i := by omega
      have GP : Hid (1 ≤ gk) := by unfold Hid; omega
      have il : i < ss.length := by omega
      obtain ⟨ad, rfl, ca⟩ := (HT.out.next M.bl).at_ i il
      have ssz := HT.out.sz _ (List.getElem_mem il)
      generalize ss[i] = s at *
      clear KD0 KS0
      by_cases sbig : 60 < s.size
      · have s1 : (60 : Int) < s.size := by omega
        clear hq
        go_wp2_with fail
        refine (awake_any _).mono ?_
        rintro e y ⟨rfl, hy⟩
        go_wp2_with fail
        go_ret
        exact ⟨rfl, below_step M.bl hy⟩
      · have s1 : ¬ (60 : Int) < s.size := by omega
        have KW := Lib.hid (write_yes _ okl s (by omega) (by show ((L al).length : Int) + _ < _; omega))
        rw [Hs.of_wr, ← L_app] at KW
        have asz : (al ++ s).size = al.size + s.size := ByteArray.size_append
        have hadd : ∀ W : World, (Op.stringOp .add al s).run Try.prog W = .ok (.string (al ++ s)) W := fun W => run_string_add_sum W _ _ (by omega)
        have hle : ¬ (9223372036854775807 < al.size + s.size) := by omega
        generalize al ++ s = be at *
        obtain ⟨m, hm⟩ : ∃ m, m = be.size / 8 := ⟨_, rfl⟩
        have bsz : be.size ≤ 1200 := by omega
        have BSZ : Hid (be.size ≤ 60 * (i + 1)) := by unfold Hid; omega
        have KB := Lib.hid (behind_any p q be (by omega) m (by omega))
        have KR := Lib.hid (refSum_any p q be (by omega))
        have KD := Lib.hid (done_yes _ (Hs.of_ok p q (L be)) (by show ((L be).length : Int) < _; rw [L_len]; omega))
        rw [Hs.of_fin] at KD
        have EO := Lib.hid (of_parts p q be m hm)
        obtain ⟨⟨⟨y0, y1, y2, y3⟩, t1, n1⟩, hh⟩ : ∃ h, Hid (h = Hs.of p q (L al)) := ⟨_, Lib.hid rfl⟩
        rw [← hh.out] at KW M
        change Two w g r #[.int .u64 (I p), .int .u64 (I q)] #[.int .u64 (I y0), .int .u64 (I y1), .int .u64 (I y2), .int .u64 (I y3), .string t1, .int .i64 n1] wr at M
        obtain ⟨⟨x0, x1, x2, x3⟩, hx⟩ : ∃ x, Hid (x = eightsN m (start p q) (L be)) := ⟨_, Lib.hid rfl⟩
        obtain ⟨u, hu⟩ : ∃ u, Hid (u = be.extract (8 * m) be.size) := ⟨_, Lib.hid rfl⟩
        rw [← hx.out, ← hu.out] at EO
        rw [EO.out] at KW KD
        rw [← hx.out] at KB
        have hu2 : be.extract (8 * m) be.size = u := hu.out.symm
        generalize hash p q (L be) = H at *
        have em : (be.size : Int).tdiv 8 = (m : Int) := by rw [Int.tdiv_eq_ediv_of_nonneg (by omega)]; omega
        have wm : IntKind.i64.wrap (m : Int) = (m : Int) := by rw [IntKind.wrap_i64]; omega
        have w8 : IntKind.i64.wrap (8 * (m : Int)) = 8 * (m : Int) := by rw [IntKind.wrap_i64]; omega
        have m0 : (0 : Int) ≤ 8 * (m : Int) := by omega
        have m1 : 8 * (m : Int) ≤ be.size := by omega
        have m2 : (8 * (m : Int)).toNat = 8 * m := by omega
        have heq : ∀ W : World, (Op.equalIn 10000 29 (.agg #[.int .u64 (I x0), .int .u64 (I x1), .int .u64 (I x2), .int .u64 (I x3)]) (.agg #[.int .u64 (I x0), .int .u64 (I x1), .int .u64 (I x2), .int .u64 (I x3)])).run Try.prog W = .ok true W := fun W => by
          have := eq4 9998 (I x0) (I x1) (I x2) (I x3) (I x0) (I x1) (I x2) (I x3) W
          simpa using this
        clear hq hal okl LL asz hm bsz sbig lt T1 T2 T3 ssz big
        obtain ⟨c0, c1⟩ := M.bg.two
        obtain ⟨d0, d1, d2, d3, d4, d5⟩ := M.br.six
        go_wp2_with fail
        refine (KW.out _).mono ?_
        rintro e W3 ⟨rfl, B⟩
        replace M := M.next B
        clear c0 c1 d0 d1 d2 d3 d4 d5 B ca
        obtain ⟨d0, d1, d2, d3, d4, d5⟩ := M.br.six
        have f0 := M.br.melt 0; have f1 := M.br.melt 1; have f2 := M.br.melt 2; have f3 := M.br.melt 3; have f4 := M.br.melt 4; have f5 := M.br.melt 5
        go_upto_region 11 with fail
        replace M := M.put6 (.int .u64 (I x0)) (.int .u64 (I x1)) (.int .u64 (I x2)) (.int .u64 (I x3)) (.string u) (.int .i64 (be.size : Int))
        generalize (((((W3.setCell ⟨r, 0, none⟩ (.int .u64 (I x0))).setCell ⟨r, 1, none⟩ (.int .u64 (I x1))).setCell ⟨r, 2, none⟩ (.int .u64 (I x2))).setCell ⟨r, 3, none⟩ (.int .u64 (I x3))).setCell ⟨r, 4, none⟩ (.string u)).setCell ⟨r, 5, none⟩ (.int .i64 (be.size : Int)) = W4 at *
        clear d0 d1 d2 d3 d4 d5 f0 f1 f2 f3 f4 f5
        obtain ⟨c0, c1⟩ := M.bg.two
        obtain ⟨d0, d1, d2, d3, d4, d5⟩ := M.br.six
        go_upto_region 13 with fail
        go_region_held3 (fun w' => (w'.cell? ⟨g, 0, none⟩ = some (.int .u64 (I p)) ∧ w'.cell? ⟨g, 1, none⟩ = some (.int .u64 (I q))) ∧ w'.cell? ⟨r, 0, none⟩ = some (.int .u64 (I x0)) ∧ w'.cell? ⟨r, 1, none⟩ = some (.int .u64 (I x1)) ∧ w'.cell? ⟨r, 2, none⟩ = some (.int .u64 (I x2)) ∧ w'.cell? ⟨r, 3, none⟩ = some (.int .u64 (I x3)) ∧ w'.cell? ⟨r, 4, none⟩ = some (.string u) ∧ w'.cell? ⟨r, 5, none⟩ = some (.int .i64 (be.size : Int)))
          ((refine ⟨⟨?_, ?_⟩, ?_, ?_, ?_, ?_, ?_, ?_⟩ <;> (repeat (first | with_reducible exact c0 | with_reducible exact c1 | with_reducible exact d0 | with_reducible exact d1 | with_reducible exact d2 | with_reducible exact d3 | with_reducible exact d4 | with_reducible exact d5 | with_reducible refine keep_drew ?_ | with_reducible refine keep_cell (by assumption) ?_))))
          (first
            | (go_at_call 13; (with_reducible refine (KB.out _).mono ?_); rintro e z1 ⟨rfl, hz1⟩)
            | (go_at_call 14; (with_reducible refine (KD.out _).mono ?_); rintro e z2 ⟨rfl, hz2⟩)
            | (go_at_call 10; (with_reducible refine (KR.out _).mono ?_); rintro e z3 ⟨rfl, hz3⟩))
        all_goals go_wp2_with fail
        go_roundg (gk - 1)
        case measure => have := GP.out; omega
        case rel =>
          go_light
          refine ⟨i + 1, be, by have := HQ.out; have := GP.out; omega, by go_num, rfl, BSZ.out, ?_⟩
          rw [EO.out]
          have M2 := M.drew.next hz1
          exact (M2.next hz2).next hz3
    · have i1 : ¬ (i : Int) < n := by omega
      obtain ⟨⟨⟨y0, y1, y2, y3⟩, t1, n1⟩, hh⟩ : ∃ h, Hid (h = Hs.of p q (L al)) := ⟨_, Lib.hid rfl⟩
      rw [← hh.out] at KD0 M
      change Two w g r #[.int .u64 (I p), .int .u64 (I q)] #[.int .u64 (I y0), .int .u64 (I y1), .int .u64 (I y2), .int .u64 (I y3), .string t1, .int .i64 n1] wr at M
      generalize hash p q (L al) = H at *
      clear hq hal okl LL lt T1 T2 T3 big
      obtain ⟨c0, c1⟩ := M.bg.two
      obtain ⟨d0, d1, d2, d3, d4, d5⟩ := M.br.six
      go_upto_region 16 with fail
      go_region_held3 (fun w' => (w'.cell? ⟨g, 0, none⟩ = some (.int .u64 (I p)) ∧ w'.cell? ⟨g, 1, none⟩ = some (.int .u64 (I q))) ∧ w'.cell? ⟨r, 0, none⟩ = some (.int .u64 (I y0)) ∧ w'.cell? ⟨r, 1, none⟩ = some (.int .u64 (I y1)) ∧ w'.cell? ⟨r, 2, none⟩ = some (.int .u64 (I y2)) ∧ w'.cell? ⟨r, 3, none⟩ = some (.int .u64 (I y3)) ∧ w'.cell? ⟨r, 4, none⟩ = some (.string t1) ∧ w'.cell? ⟨r, 5, none⟩ = some (.int .i64 n1))
        ((refine ⟨⟨?_, ?_⟩, ?_, ?_, ?_, ?_, ?_, ?_⟩ <;> (repeat (first | with_reducible exact c0 | with_reducible exact c1 | with_reducible exact d0 | with_reducible exact d1 | with_reducible exact d2 | with_reducible exact d3 | with_reducible exact d4 | with_reducible exact d5 | with_reducible refine keep_drew ?_ | with_reducible refine keep_cell (by assumption) ?_))))
        (first
          | (go_at_call 14; (with_reducible refine (KD0.out _).mono ?_); rintro e z1 ⟨rfl, hz1⟩)
          | (go_at_call 9; (with_reducible refine (KS0.out _).mono ?_); rintro e z2 ⟨rfl, hz2⟩)
          | (go_at_call 8; refine (awake_any _).mono ?_; rintro e z9 ⟨rfl, hz9⟩))
      all_goals go_wp2_with fail
      all_goals go_light
      go_ret
      exact ⟨rfl, below_step (below_step (below_step M.drew.bl hz1) hz2) hz9⟩

set_option maxRecDepth 100000 in
theorem lifted (os : Os) (started : os.Started) (H : Type) (enc : TypeId × Value → H) :
    ReturnsInHanded {} Try.checked os 4 .any (Rows.sipPartsSpec.pre6 enc Try.prog Try.f4 Rows.sipPartsRow.domain false) (Rows.sipPartsSpec.post enc Try.prog Try.f4 false true false false) := by
  refine returnsInHanded_of_change (C := Try.checked) own started (by kernel_rfl) Try.func4
    (ChangeSpec.witness6 (enc := enc) (C := Try.checked) false ⟨#[], #[.agg #[.int .u64 0, .int .u64 0], .slice none 0 0], []⟩ 8 (by kernel_rfl) (by kernel_rfl) (by kernel_rfl) (by kernel_rfl)) ?_
  intro W base args ds gs before hval0 hW hcnd _
  have hval : ∀ (j : Nat) t v, Try.f4.params[j]? = some t → args[j]? = some v → Value.okWide Try.prog W .any base t v := hval0
  have hW' := hW
  obtain ⟨p, q, hA0, hV, rfl, _, _⟩ := hW
  have hA : DataW.TrodAll enc Try.prog W 0 (fun _ => true) true Try.f4.params.toList args.toList ds p := hA0
  rw [Try.params4] at hA hval
  obtain ⟨v0, v1, d0, d1, p0, p1, rfl, rfl, rfl, h0t, h1t⟩ := trodAll_two hA
  obtain ⟨rfl, rfl⟩ := trodVars_none hV
  obtain ⟨a0, b0, rfl⟩ := open_seed (hval 0 24 v0 rfl rfl) h0t
  obtain ⟨A1, n1, c1, ss1, rfl, hs1⟩ := open_texts (hval 1 28 v1 rfl rfl) h1t
  clear hA0 hval0
  simp only [List.append_nil] at hW'
  have hlt : ∀ x ∈ p0 ++ p1, x.block < W.heap.size := fun x hx => by simpa using hW'.lt x (by simpa using hx)
  refine (walk a0 b0 hs1).mono fun e W' ⟨he, hbl⟩ => ?_
  subst he
  refine ⟨_, rfl, post_args hW' (fun _ _ _ => trodAll_mk1 (shut_bool Try.underlying4 _)) ?_ (fun _ => rfl) hbl⟩
  have t0 := Below.trod laidOut readable_seed typed_seed h0t hbl (fun x hx => hlt x (List.mem_append_left _ hx))
  have t1 := Below.trod laidOut readable_strs typed_strs h1t hbl (fun x hx => hlt x (List.mem_append_right _ hx))
  exact trodAll_mk2 t0 t1

theorem proved : Rows.SipPartsSaid :=
  OpenClaim.holds_of_wide 4 Try.f4 rfl rfl rfl rfl rfl rfl rfl ⟨rfl, rfl, rfl, rfl, rfl⟩ rfl rfl rfl rfl rfl (by kernel_rfl) Try.func4 (by kernel_rfl)
    (of_decide_eq_true (by kernel_rfl)) (by unfold Func.isWrapper; first | (rw [if_pos (by decide +kernel)]; kernel_rfl) | (rw [if_neg (by decide +kernel)]; exact ⟨rfl, rfl⟩))
    (fun os started H enc _ => lifted os started H enc)
#print axioms proved
end Go.Proofs.Ytiombblclgkigaa.sipParts
