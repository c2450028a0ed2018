/- For any text, any place and any bits the law CrcBurst answers true: a text of which bits are turned, within 32 that follow one another, has another sum. No condition. -/
import Derived.Test.YtkghlijmlifmjaaCO
import Derived.Test.YtkghlijmlifmjaaCP
namespace Go.Proofs.Ytkghlijmlifmjaa.crcBurst
open Go.ChangeShapes Go.WideShapes Go.ChangeAt Go.RowKit
open Go.Proofs.Ytkghlijmlifmjaa
set_option linter.unusedVariables false
set_option linter.unusedSimpArgs false

theorem bit_J (x : BitVec 32) (i : Nat) : bits BinOp.and IntKind.u32 (J x / (2 : Int) ^ i) 1 = if x.getLsbD i then 1 else 0 := by
  have h := shr_J x i
  rw [Int.natCast_pow] at h
  rw [show (J x / (2 : Int) ^ i) = J (x >>> i) from h, kJ1, and_J, and_one, BitVec.getLsbD_ushiftRight, Nat.add_zero]
  cases x.getLsbD i
  · exact kJ0.symm
  · rfl
theorem two_pow (r : Nat) (h : r < 8) : ∃ m : UInt8, m.toNat = 2 ^ r := ⟨UInt8.ofNat (2 ^ r), by
  have : ∀ r : Fin 8, (UInt8.ofNat (2 ^ r.val)).toNat = 2 ^ r.val := by decide
  exact this ⟨r, h⟩⟩
set_option maxHeartbeats 4000000 in
set_option maxRecDepth 100000 in
theorem walk (s : ByteArray) (n : Nat) (x : BitVec 32) (hs : s.size ≤ maxLen) (hn : n < 65536) (w : World) : Calls Try.prog 5 #[.string s, .int .u16 (n : Int), .int .u32 (J x)] w fun e w' => e = .returned (.bool true) ∧ Below w.heap.size w w' := by
  unfold maxLen at hs
  by_cases big : 300 < s.size
  · have b1 : (300 : Int) < s.size := by omega
    clear hs
    go_enter Try.func5, Try.ntmps5
    go_wp2_with fail
    refine (awake_any _).mono ?_
    rintro e y ⟨rfl, hy⟩
    go_wp2_with fail
    go_ret
    exact ⟨rfl, hy⟩
  have b1 : ¬ (300 : Int) < s.size := by omega
  by_cases few : s.size < 4
  · have b2 : (s.size : Int) < 4 := by omega
    clear hs
    go_enter Try.func5, Try.ntmps5
    go_wp2_with fail
    refine (awake_any _).mono ?_
    rintro e y ⟨rfl, hy⟩
    go_wp2_with fail
    go_ret
    exact ⟨rfl, hy⟩
  have b2 : ¬ (s.size : Int) < 4 := by omega
  by_cases nil : x = 0#32
  · have b3 : J x = 0 := by rw [nil, ← kJ0]
    clear hs nil
    go_enter Try.func5, Try.ntmps5
    go_wp2_with fail
    refine (awake_any _).mono ?_
    rintro e y ⟨rfl, hy⟩
    go_wp2_with fail
    go_ret
    exact ⟨rfl, hy⟩
  have b3 : ¬ J x = 0 := fun h => nil (J_inj (by rw [← kJ0]; exact h))
  have b4 : (J x == 0) = false := by simpa using b3
  obtain ⟨f, hf⟩ : ∃ f, f = n % (8 * s.size - 31) := ⟨_, rfl⟩
  have f1 : f < 8 * s.size - 31 := by rw [hf]; exact Nat.mod_lt _ (by omega)
  have FT : ((n : Int)).tmod (8 * (s.size : Int) - 31) = (f : Int) := by
    rw [hf, show (8 * (s.size : Int) - 31) = ((8 * s.size - 31 : Nat) : Int) by omega]; rfl
  have nz : ¬ (8 * (s.size : Int) - 31) = 0 := by omega
  have n0 : (n : Int) < 65536 := by omega
  have HF := Lib.hid f1
  obtain ⟨c, W0, RB, M⟩ := bytes_new w s
  clear hs hf
  go_enter Try.func5, Try.ntmps5
  go_wp2_with fail
  clear RB FT nz n0 b1 b2
  obtain ⟨g, hg⟩ : ∃ g, g = w.heap.size := ⟨_, rfl⟩
  rw [← hg] at M
  rw [← hg]
  clear hg
  go_loopg [33] 32 (fun q s33 wr => ∃ (i : Nat) (t : List UInt8), i + q = 32 ∧ s33 = .int .i64 (i : Int) ∧ Turned (L s) x f i t ∧ Bts w g t wr)
  case atStart => exact ⟨0, L s, by omega, rfl, Turned.zero _ _ _, M⟩
  case round =>
    clear M
    obtain ⟨i, t, hq, rfl, T, M⟩ := hrel
    have HQ := Lib.hid hq
    have HT := Lib.hid T
    have tl := T.1
    rw [L_len] at tl
    clear T
    by_cases lt : i < 32
    · have i1 : (i : Int) < 32 := by omega
      have i0 : (0 : Int) ≤ i := by omega
      cases hb : x.getLsbD i
      · have BT := bit_J x i
        rw [hb] at BT
        have TS := Lib.hid (HT.out.stay hb)
        clear hq hb
        go_wp2_with fail
        go_roundg (gk - 1)
        case measure => have := HQ.out; omega
        case rel =>
          go_light
          exact ⟨i + 1, t, by have := HQ.out; omega, by go_num, TS.out, M⟩
      · have BT := bit_J x i
        rw [hb] at BT
        obtain ⟨k, hk⟩ : ∃ k, k = f + i := ⟨_, rfl⟩
        have kq : k / 8 < t.length := by rw [tl]; omega
        obtain ⟨m, hm⟩ : ∃ m : UInt8, m.toNat = 2 ^ (k % 8) := two_pow (k % 8) (Nat.mod_lt _ (by decide))
        have TS := Lib.hid (HT.out.turn hb (by rw [← hk]; exact kq) m (by rw [← hk]; exact hm))
        have d := M.cell (k / 8) kq
        have fz := M.melt (k / 8) kq
        have X8 := xor_8 t[k / 8] m
        simp only [← hk] at TS
        generalize t[k / 8] ^^^ m = y at *
        generalize t[k / 8]'_ = y0 at *
        have kk : (f : Int) + (i : Int) = (k : Int) := by omega
        have q1 : ((k / 8 : Nat) : Int) < s.size := by omega
        have q2 : (k : Int).tdiv 8 = ((k / 8 : Nat) : Int) := rfl
        have q3 : (k : Int).tmod 8 = ((k % 8 : Nat) : Int) := rfl
        have q4 : ((k / 8 : Nat) : Int).toNat = k / 8 := Int.toNat_natCast _
        have kl : (k : Int) < 3000 := by omega
        have r8 : ((k % 8 : Nat) : Int) < 8 := by omega
        have pm : (2 : Int) ^ (k % 8) % 256 = (m.toNat : Int) := by
          rw [hm, Int.natCast_pow, Int.emod_eq_of_lt (Int.pow_nonneg (by decide)) ?_]; rfl
          have : (2 : Nat) ^ (k % 8) < 256 := by rw [← hm]; exact m.toNat_lt
          exact_mod_cast this
        clear hq hb hk kq hm
        go_wp2_with fail
        go_region
        all_goals go_wp2_with fail
        all_goals go_roundg (gk - 1)
        case measure => have := HQ.out; omega
        case rel =>
          go_light
          exact ⟨i + 1, _, by have := HQ.out; omega, by go_num, TS.out, M.drew.set (k / 8) y⟩
    · obtain rfl : 32 = i := by omega
      have i1 : ¬ (32 : Int) < 32 := by decide
      have NE := HT.out.unlike nil (by rw [L_len]; have := HF.out; omega) (~~~ 0#32)
      have NS : ¬ crcSum t = crcSum (L s) := fun h => NE (by
        rw [crcSum_eq, crcSum_eq] at h
        unfold crcMore at h
        have := congrArg (~~~ ·) h
        simp only [BitVec.not_not] at this
        exact this)
      have NJ : ¬ J (crcSum t) = J (crcSum (L s)) := fun h => NS (J_inj h)
      have CV := conv_of (n := s.size) (c := c) tl M.cell
      have KT := Lib.hid (sum_any (bs t) (by rw [bs_size, tl]; omega))
      have KS := Lib.hid (sum_any s (by omega))
      rw [L_bs] at KT
      generalize crcSum t = X at *
      generalize crcSum (L s) = Y at *
      have NB : (J X == J Y) = false := by simpa using NJ
      have NB2 : (J X != J Y) = true := by simpa using NJ
      clear hq NE NS tl lt
      go_wp2_with fail
      refine (KT.out _).mono ?_
      rintro e W1 ⟨rfl, B1⟩
      go_wp2_with fail
      refine (KS.out _).mono ?_
      rintro e W2 ⟨rfl, B2⟩
      go_wp2_with fail
      refine (awake_any _).mono ?_
      rintro e W3 ⟨rfl, B3⟩
      go_wp2_with fail
      go_ret
      exact ⟨rfl, below_step (below_step (below_step M.bl B1) B2) B3⟩

set_option maxRecDepth 100000 in
theorem lifted (os : Os) (started : os.Started) (H : Type) (enc : TypeId × Value → H) :
    ReturnsInHanded {} Try.checked os 5 .any (Rows.crcBurstSpec.pre6 enc Try.prog Try.f5 Rows.crcBurstRow.domain false) (Rows.crcBurstSpec.post enc Try.prog Try.f5 false true false false) := by
  refine returnsInHanded_of_change (C := Try.checked) own started (by kernel_rfl) Try.func5
    (ChangeSpec.witness6 (enc := enc) (C := Try.checked) false ⟨#[], #[.string ⟨#[]⟩, .int .u16 0, .int .u32 0], []⟩ 8 (by kernel_rfl) (by kernel_rfl) (by kernel_rfl) (by kernel_rfl)) ?_
  intro W base args ds gs before hval0 hW hcnd _
  have hval : ∀ (j : Nat) t v, Try.f5.params[j]? = some t → args[j]? = some v → Value.okWide Try.prog W .any base t v := hval0
  have hW' := hW
  obtain ⟨p, q, hA0, hV, rfl, _, _⟩ := hW
  have hA : DataW.TrodAll enc Try.prog W 0 (fun _ => true) true Try.f5.params.toList args.toList ds p := hA0
  rw [Try.params5] at hA hval
  obtain ⟨v0, v1, v2, d0, d1, d2, p0, p1, p2, rfl, rfl, rfl, h0t, h1t, h2t⟩ := trodAll_three hA
  obtain ⟨rfl, rfl⟩ := trodVars_none hV
  obtain ⟨s0, rfl, -, -, hs0⟩ := Go.ChangeMaps.open_string Try.underlying9 (hval 0 9 v0 rfl rfl) h0t
  obtain ⟨n1, rfl, hn1⟩ := open_u16 (hval 1 31 v1 rfl rfl) h1t
  obtain ⟨x2, rfl⟩ := open_u32 (hval 2 22 v2 rfl rfl) h2t
  clear hA0 hval0
  simp only [List.append_nil] at hW'
  have hlt : ∀ x ∈ p0 ++ p1 ++ p2, x.block < W.heap.size := fun x hx => by simpa using hW'.lt x (by simpa using hx)
  refine (walk s0 n1 x2 hs0 hn1 W).mono fun e W' ⟨he, hbl⟩ => ?_
  subst he
  refine ⟨_, rfl, post_args hW' (fun _ _ _ => trodAll_mk1 (shut_bool Try.underlying4 _)) ?_ (fun _ => rfl) hbl⟩
  have t0 := Below.trod laidOut readable_str typed_str h0t hbl (fun x hx => hlt x (List.mem_append_left _ (List.mem_append_left _ hx)))
  have t1 := Below.trod laidOut readable_u16 typed_u16 h1t hbl (fun x hx => hlt x (List.mem_append_left _ (List.mem_append_right _ hx)))
  have t2 := Below.trod laidOut readable_u32 typed_u32 h2t hbl (fun x hx => hlt x (List.mem_append_right _ hx))
  exact (List.append_assoc p0 p1 p2) ▸ trodAll_mk3 t0 t1 t2

theorem proved : Rows.CrcBurstSaid :=
  OpenClaim.holds_of_wide 5 Try.f5 rfl rfl rfl rfl rfl rfl rfl ⟨rfl, rfl, rfl, rfl, rfl⟩ rfl rfl rfl rfl rfl (by kernel_rfl) Try.func5 (by kernel_rfl)
    (of_decide_eq_true (by kernel_rfl)) (by unfold Func.isWrapper; first | (rw [if_pos (by decide +kernel)]; kernel_rfl) | (rw [if_neg (by decide +kernel)]; exact ⟨rfl, rfl⟩))
    (fun os started H enc _ => lifted os started H enc)
#print axioms proved
end Go.Proofs.Ytkghlijmlifmjaa.crcBurst
