/- For any three texts the law CrcThree answers true: of their first bytes, as many as all have, the sums, changed by one another, are the sum of all three, changed by one another. No condition. -/
import Derived.Test.YtkghlijmlifmjaaCO
import Derived.Test.YtkghlijmlifmjaaCP
namespace Go.Proofs.Ytkghlijmlifmjaa.crcThree
open Go.ChangeShapes Go.WideShapes Go.ChangeAt Go.RowKit
open Go.Proofs.Ytkghlijmlifmjaa
set_option linter.unusedVariables false
set_option linter.unusedSimpArgs false

/-- The bytes so far. -/
def upto (l : List UInt8) (i : Nat) : List UInt8 := l.take i ++ List.replicate (l.length - i) 0
theorem upto_len (l : List UInt8) (i : Nat) (h : i ≤ l.length) : (upto l i).length = l.length := by
  unfold upto; rw [List.length_append, List.length_take, List.length_replicate]; omega
theorem upto_zero (l : List UInt8) : upto l 0 = List.replicate l.length 0 := by unfold upto; simp
theorem upto_all (l : List UInt8) : upto l l.length = l := by unfold upto; simp
theorem upto_set (l : List UInt8) (i : Nat) (h : i < l.length) : (upto l i).set i l[i] = upto l (i + 1) := by
  unfold upto
  rw [List.set_append_right _ _ (by rw [List.length_take]; omega), List.length_take, Nat.min_eq_left (by omega), Nat.sub_self, List.take_succ_eq_append_getElem h, List.append_assoc]
  congr 1
  rw [show l.length - i = (l.length - (i + 1)) + 1 by omega, List.replicate_succ, List.set_cons_zero]; rfl
set_option maxHeartbeats 4000000 in
set_option maxRecDepth 100000 in
theorem walk (a b c : ByteArray) (ha : a.size ≤ maxLen) (hb : b.size ≤ maxLen) (hc : c.size ≤ maxLen) (w : World) : Calls Try.prog 7 #[.string a, .string b, .string c] w fun e w' => e = .returned (.bool true) ∧ Below w.heap.size w w' := by
  unfold maxLen at ha hb hc
  obtain ⟨n, hn⟩ : ∃ n, n = min (min a.size b.size) c.size := ⟨_, rfl⟩
  have na : n ≤ a.size := by omega
  have nb : n ≤ b.size := by omega
  have nc : n ≤ c.size := by omega
  have MN : ∀ W : World, (Builtin.min_ #[3, 3, 3] 3 #[.int .i64 (a.size : Int), .int .i64 (b.size : Int), .int .i64 (c.size : Int)]).run Try.prog W = .ok (.int .i64 (n : Int)) W := fun W => by
    have : (n : Int) = if (c.size : Int) < (if (b.size : Int) < a.size then (b.size : Int) else a.size) then (c.size : Int) else (if (b.size : Int) < a.size then (b.size : Int) else a.size) := by
      split <;> split at * <;> omega
    rw [this]
    simp [Builtin.min_, Builtin.min2]
  by_cases big : 300 < n
  · have b1 : (300 : Int) < n := by omega
    clear ha hb hc na nb nc hn
    go_enter Try.func7, Try.ntmps7
    go_wp2_with fail
    refine (awake_any _).mono ?_
    rintro e y ⟨rfl, hy⟩
    go_wp2_with fail
    go_ret
    exact ⟨rfl, hy⟩
  have b1 : ¬ (300 : Int) < n := by omega
  obtain ⟨l, hl⟩ : ∃ l, Hid (l = xorT (xorT ((L a).take n) ((L b).take n)) ((L c).take n)) := ⟨_, Lib.hid rfl⟩
  have la : ((L a).take n).length = n := by rw [List.length_take, L_len]; omega
  have lb : ((L b).take n).length = n := by rw [List.length_take, L_len]; omega
  have lc : ((L c).take n).length = n := by rw [List.length_take, L_len]; omega
  have lab : (xorT ((L a).take n) ((L b).take n)).length = n := by rw [xorT_len (by rw [la, lb]), la]
  have ln : l.length = n := by rw [hl.out, xorT_len (by rw [lab, lc]), lab]
  have LN := Lib.hid ln
  have AT : Hid (∀ (i : Nat) (h : i < l.length) (h1 : i < a.size) (h2 : i < b.size) (h3 : i < c.size), l[i] = a[i] ^^^ b[i] ^^^ c[i]) := fun i h h1 h2 h3 => by
    have : l[i]? = some (a[i] ^^^ b[i] ^^^ c[i]) := by
      rw [hl.out]; unfold xorT
      rw [List.getElem?_zipWith, List.getElem?_zipWith, List.getElem?_take, List.getElem?_take, List.getElem?_take, if_pos (by omega), if_pos (by omega), if_pos (by omega), List.getElem?_eq_getElem (by rw [L_len]; exact h1), List.getElem?_eq_getElem (by rw [L_len]; exact h2), List.getElem?_eq_getElem (by rw [L_len]; exact h3)]; rfl
    rw [List.getElem?_eq_getElem h] at this
    exact Option.some.inj this
  have TH := three 0#32 (a := (L a).take n) (b := (L b).take n) (c := (L c).take n) (by rw [la, lb]) (by rw [lb, lc])
  rw [← hl.out, ← crcSum_eq, ← crcSum_eq, ← crcSum_eq, ← crcSum_eq] at TH
  have TH' := Lib.hid TH
  have za : (a.extract 0 n).size ≤ 100000 := by rw [← L_len, L_take, la]; omega
  have zb : (b.extract 0 n).size ≤ 100000 := by rw [← L_len, L_take, lb]; omega
  have zc : (c.extract 0 n).size ≤ 100000 := by rw [← L_len, L_take, lc]; omega
  have KA := Lib.hid (sum_any (a.extract 0 n) za)
  have KB := Lib.hid (sum_any (b.extract 0 n) zb)
  have KC := Lib.hid (sum_any (c.extract 0 n) zc)
  have KD := Lib.hid (sum_any (bs l) (by rw [bs_size, ln]; omega))
  rw [L_take] at KA KB KC
  rw [L_bs] at KD
  have KW := Lib.hid awake_any
  have HA := Lib.hid na; have HB := Lib.hid nb; have HC := Lib.hid nc; have HN : Hid (n ≤ 300) := by unfold Hid; omega
  clear la lb lc lab ln za zb zc hl TH hn ha hb hc na nb nc big
  obtain ⟨W0, RM, M⟩ := bytes_make w n (by have := HN.out; omega) .i64 .i64
  go_enter Try.func7, Try.ntmps7
  go_wp2_with fail
  clear RM MN
  obtain ⟨g, hg⟩ : ∃ g, g = w.heap.size := ⟨_, rfl⟩
  rw [← hg] at M
  rw [← hg]
  clear hg
  go_loopg [24] n (fun q s24 wr => ∃ i : Nat, i + q = n ∧ s24 = .int .i64 (i : Int) ∧ Bts w g (upto l i) wr)
  case atStart => exact ⟨0, by omega, rfl, by rw [upto_zero, LN.out]; exact M⟩
  case round =>
    clear M
    obtain ⟨i, hq, rfl, M⟩ := hrel
    have HQ := Lib.hid hq
    by_cases lt : i < n
    · have i1 : (i : Int) < n := by omega
      have i0 : (0 : Int) ≤ i := by omega
      have ja : i < a.size := by have := HA.out; omega
      have jb : i < b.size := by have := HB.out; omega
      have jc : i < c.size := by have := HC.out; omega
      have ia : (i : Int) < a.size := by omega
      have ib : (i : Int) < b.size := by omega
      have ic : (i : Int) < c.size := by omega
      have il : i < l.length := by rw [LN.out]; exact lt
      have E := Lib.hid (AT.out i il ja jb jc)
      have X1 := xor_8 a[i] b[i]
      have X2 := xor_8 (a[i] ^^^ b[i]) c[i]
      rw [← E.out] at X2
      generalize a[i] ^^^ b[i] = p at *
      have S := Lib.hid (upto_set l i il)
      have d := M.cell i (by rw [upto_len _ _ (Nat.le_of_lt il)]; exact il)
      have f := M.melt i (by rw [upto_len _ _ (Nat.le_of_lt il)]; exact il)
      generalize l[i] = q at *
      generalize (upto l i)[i]'_ = q0 at *
      clear hq E
      go_wp2_with fail
      go_region
      all_goals go_wp2_with fail
      all_goals go_roundg (gk - 1)
      case measure => have := HQ.out; omega
      case rel =>
        go_light
        exact ⟨i + 1, by have := HQ.out; omega, by go_num, by rw [← S.out]; exact M.drew.set i q⟩
    · obtain rfl : n = i := by omega
      have i1 : ¬ (n : Int) < n := by omega
      have EU : upto l n = l := by rw [← LN.out]; exact upto_all l
      rw [EU] at M
      have XA := xor_J (crcSum ((L a).take n)) (crcSum ((L b).take n))
      have XB := xor_J (crcSum ((L a).take n) ^^^ crcSum ((L b).take n)) (crcSum ((L c).take n))
      rw [← TH'.out] at XB
      generalize crcSum ((L a).take n) ^^^ crcSum ((L b).take n) = xy at *
      generalize crcSum ((L a).take n) = x at *
      generalize crcSum ((L b).take n) = y at *
      generalize crcSum ((L c).take n) = z at *
      generalize crcSum l = t at *
      have ja : (n : Int) ≤ a.size := by have := HA.out; omega
      have jb : (n : Int) ≤ b.size := by have := HB.out; omega
      have jc : (n : Int) ≤ c.size := by have := HC.out; omega
      have j0 : (0 : Int) ≤ n := by omega
      have CB := M.cell
      have CV := conv_of (n := n) (c := n) LN.out CB
      clear hq EU TH' lt
      go_upto_region 10 with fail
      go_region_held3 (fun w' => (convert 32 9 (.slice (some ⟨g, 0, none⟩) n n)).run Try.prog w' = .ok (.string (bs l)) w')
        ((refine conv_of LN.out ?_; (repeat (first | with_reducible exact CB | with_reducible refine Byt.drew ?_ | with_reducible refine Byt.next (by assumption) ?_))))
        (first
          | (go_at_call 12; (with_reducible refine (KA.out _).mono ?_); rintro e z1 ⟨rfl, hz1⟩)
          | (go_at_call 12; (with_reducible refine (KB.out _).mono ?_); rintro e z2 ⟨rfl, hz2⟩)
          | (go_at_call 12; (with_reducible refine (KC.out _).mono ?_); rintro e z3 ⟨rfl, hz3⟩)
          | (go_at_call 12; (with_reducible refine (KD.out _).mono ?_); rintro e z4 ⟨rfl, hz4⟩)
          | (go_at_call 9; (with_reducible refine (KW.out _).mono ?_); rintro e z7 ⟨rfl, hz7⟩))
      all_goals go_wp2_with fail
      all_goals go_light
      all_goals (go_ret; refine ⟨rfl, ?_⟩; repeat (first | with_reducible exact M.drew.bl | with_reducible refine below_step ?_ (by assumption)))

set_option maxRecDepth 100000 in
theorem lifted (os : Os) (started : os.Started) (H : Type) (enc : TypeId × Value → H) :
    ReturnsInHanded {} Try.checked os 7 .any (Rows.crcThreeSpec.pre6 enc Try.prog Try.f7 Rows.crcThreeRow.domain false) (Rows.crcThreeSpec.post enc Try.prog Try.f7 false true false false) := by
  refine returnsInHanded_of_change (C := Try.checked) own started (by kernel_rfl) Try.func7
    (ChangeSpec.witness6 (enc := enc) (C := Try.checked) false ⟨#[], #[.string ⟨#[]⟩, .string ⟨#[]⟩, .string ⟨#[]⟩], []⟩ 8 (by kernel_rfl) (by kernel_rfl) (by kernel_rfl) (by kernel_rfl)) ?_
  intro W base args ds gs before hval0 hW hcnd _
  have hval : ∀ (j : Nat) t v, Try.f7.params[j]? = some t → args[j]? = some v → Value.okWide Try.prog W .any base t v := hval0
  have hW' := hW
  obtain ⟨p, q, hA0, hV, rfl, _, _⟩ := hW
  have hA : DataW.TrodAll enc Try.prog W 0 (fun _ => true) true Try.f7.params.toList args.toList ds p := hA0
  rw [Try.params7] at hA hval
  obtain ⟨v0, v1, v2, d0, d1, d2, p0, p1, p2, rfl, rfl, rfl, h0t, h1t, h2t⟩ := trodAll_three hA
  obtain ⟨rfl, rfl⟩ := trodVars_none hV
  obtain ⟨s0, rfl, -, -, hs0⟩ := Go.ChangeMaps.open_string Try.underlying9 (hval 0 9 v0 rfl rfl) h0t
  obtain ⟨s1, rfl, -, -, hs1⟩ := Go.ChangeMaps.open_string Try.underlying9 (hval 1 9 v1 rfl rfl) h1t
  obtain ⟨s2, rfl, -, -, hs2⟩ := Go.ChangeMaps.open_string Try.underlying9 (hval 2 9 v2 rfl rfl) h2t
  clear hA0 hval0
  simp only [List.append_nil] at hW'
  have hlt : ∀ x ∈ p0 ++ p1 ++ p2, x.block < W.heap.size := fun x hx => by simpa using hW'.lt x (by simpa using hx)
  refine (walk s0 s1 s2 hs0 hs1 hs2 W).mono fun e W' ⟨he, hbl⟩ => ?_
  subst he
  refine ⟨_, rfl, post_args hW' (fun _ _ _ => trodAll_mk1 (shut_bool Try.underlying4 _)) ?_ (fun _ => rfl) hbl⟩
  have t0 := Below.trod laidOut readable_str typed_str h0t hbl (fun x hx => hlt x (List.mem_append_left _ (List.mem_append_left _ hx)))
  have t1 := Below.trod laidOut readable_str typed_str h1t hbl (fun x hx => hlt x (List.mem_append_left _ (List.mem_append_right _ hx)))
  have t2 := Below.trod laidOut readable_str typed_str h2t hbl (fun x hx => hlt x (List.mem_append_right _ hx))
  exact (List.append_assoc p0 p1 p2) ▸ trodAll_mk3 t0 t1 t2

theorem proved : Rows.CrcThreeSaid :=
  OpenClaim.holds_of_wide 7 Try.f7 rfl rfl rfl rfl rfl rfl rfl ⟨rfl, rfl, rfl, rfl, rfl⟩ rfl rfl rfl rfl rfl (by kernel_rfl) Try.func7 (by kernel_rfl)
    (of_decide_eq_true (by kernel_rfl)) (by unfold Func.isWrapper; first | (rw [if_pos (by decide +kernel)]; kernel_rfl) | (rw [if_neg (by decide +kernel)]; exact ⟨rfl, rfl⟩))
    (fun os started H enc _ => lifted os started H enc)
#print axioms proved
end Go.Proofs.Ytkghlijmlifmjaa.crcThree
