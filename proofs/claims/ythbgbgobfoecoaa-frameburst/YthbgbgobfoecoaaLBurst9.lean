/- For any kind, payload, place and bits the law FrameBurst answers true: a frame of which bits are turned, within 32 that follow one another, some at least, is not opened. No condition. -/
import Derived.Test.YthbgbgobfoecoaaJ06
namespace Go.Proofs.Ythbgbgobfoecoaa.frameBurst
open Go.ChangeShapes Go.WideShapes Go.ChangeAt Go.RowKit
open Go.Proofs.Ythbgbgobfoecoaa
set_option linter.unusedVariables false
set_option linter.unusedSimpArgs false

theorem bit_J (x : BitVec 32) (i : Nat) : bits BinOp.and IntKind.u32 (Crc.J x / (2 : Int) ^ i) 1 = if x.getLsbD i then 1 else 0 := by
  have h := Crc.shr_J x i
  rw [Int.natCast_pow] at h
  rw [show (Crc.J x / (2 : Int) ^ i) = Crc.J (x >>> i) from h, Crc.kJ1, Crc.and_J, Crc.and_one, BitVec.getLsbD_ushiftRight, Nat.add_zero]
  cases x.getLsbD i
  · exact Crc.kJ0.symm
  · rfl
theorem two_pow (r : Nat) (h : r < 8) : ∃ m : UInt8, m.toNat = 2 ^ r := ⟨UInt8.ofNat (2 ^ r), by
  have : ∀ r : Fin 8, (UInt8.ofNat (2 ^ r.val)).toNat = 2 ^ r.val := by decide
  exact this ⟨r, h⟩⟩
set_option maxHeartbeats 4000000 in
set_option maxRecDepth 100000 in
theorem walk (n : Nat) (hn : n < 256) (s : ByteArray) (q : Nat) (hq : q < 65536) (x : BitVec 32) (w : World) : Calls Try.prog 5 #[.int .u8 (n : Int), .string s, .int .u16 (q : Int), .int .u32 (Crc.J x)] w fun e w' => e = .returned (.bool true) ∧ Below w.heap.size w w' := by
  have KF := Lib.hid awake9_any
  by_cases big : 300 < s.size
  · have b1 : (300 : Int) < s.size := by omega
    go_enter Try.func5, Try.ntmps5
    go_wp2_with fail
    refine (KF.out _).mono ?_
    rintro e y ⟨rfl, hy⟩
    go_wp2_with fail
    go_ret
    exact ⟨rfl, hy⟩
  have b1 : ¬ (300 : Int) < s.size := by omega
  by_cases nil : x = 0#32
  · have b3 : Crc.J x = 0 := by rw [nil, ← Crc.kJ0]
    clear nil
    go_enter Try.func5, Try.ntmps5
    go_wp2_with fail
    refine (KF.out _).mono ?_
    rintro e y ⟨rfl, hy⟩
    go_wp2_with fail
    go_ret
    exact ⟨rfl, hy⟩
  have b3 : ¬ Crc.J x = 0 := fun h => nil (Crc.J_inj (by rw [← Crc.kJ0]; exact h))
  have b4 : (Crc.J x == 0) = false := by simpa using b3
  obtain ⟨r, hr⟩ : ∃ r, r = n % 8 := ⟨_, rfl⟩
  obtain ⟨k, hk⟩ : ∃ k, k = 1 + r := ⟨_, rfl⟩
  have e1 : (n : Int) % 8 = (r : Int) := by omega
  have e2 : Int.tmod (n : Int) 8 = (r : Int) := by rw [show (8 : Int) = ((8 : Nat) : Int) from rfl, ← Int.ofNat_tmod, hr]
  have w1 : IntKind.i64.wrap (r : Int) = r := by rw [IntKind.wrap_i64]; omega
  have r8 : (r : Int) < 8 := by omega
  have ek : (k : Int) = 1 + (r : Int) := by omega
  have KS := Lib.hid (fun W => seal_ok k (by omega) (by omega) s (by omega) W)
  rw [ek] at KS
  have sl : (L s).length = s.size := L_len s
  have ep := enc_ten (show (L s).length < 18446744073709551616 by omega)
  have en := enc_pos (L s).length
  have tl0 := fseal_len k (L s)
  have BURST : Hid (∀ (f : Nat) (t : List UInt8), Crc.Turned (fseal k (L s)) x f 32 t → f + 32 ≤ 8 * (fseal k (L s)).length → opn t = (0, [], 2) ∨ opn t = (0, [], 11)) := fun f t h hf => opn_burst h nil hf
  obtain ⟨t0, ht0⟩ : ∃ t, t = bs (fseal k (L s)) := ⟨_, rfl⟩
  have et0 : fseal k (L s) = L t0 := by rw [ht0]
  rw [← ht0] at KS
  rw [et0] at tl0 BURST
  rw [L_len] at tl0 BURST
  have t11 : ¬ (t0.size : Int) < 11 := by omega
  have tbig : t0.size ≤ 330 := by omega
  obtain ⟨f, hf⟩ : ∃ f, f = q % (8 * t0.size - 31) := ⟨_, rfl⟩
  have f1 : f < 8 * t0.size - 31 := by rw [hf]; exact Nat.mod_lt _ (by omega)
  have FT : ((q : Int)).tmod (8 * (t0.size : Int) - 31) = (f : Int) := by
    rw [hf, show (8 * (t0.size : Int) - 31) = ((8 * t0.size - 31 : Nat) : Int) by omega]; rfl
  have nz : ¬ (8 * (t0.size : Int) - 31) = 0 := by omega
  have q0 : IntKind.i64.wrap (q : Int) = q := by rw [IntKind.wrap_i64]; omega
  have tb : (t0.size : Int) ≤ 330 := by omega
  have HF := Lib.hid f1
  have HB := Lib.hid tbig
  clear hr hk ek sl ep en tl0 ht0 et0 hf nil hq
  go_enter Try.func5, Try.ntmps5
  go_wp2_with fail
  refine (KS.out _).mono ?_
  rintro e Z ⟨rfl, BS⟩
  have BS := Lib.hid BS
  obtain ⟨c, W0, RB, M⟩ := Crc.bytes_new Z t0
  have HM := Lib.hid M
  clear e1 e2 w1 r8 b1 b3 b4 f1 tbig M hn
  go_wp2_with fail
  have M := HM.out
  clear RB FT nz q0
  obtain ⟨g, hg⟩ : ∃ g, g = Z.heap.size := ⟨_, rfl⟩
  rw [← hg] at M
  rw [← hg]
  clear hg
  go_loopg [51] 32 (fun qq s51 wr => ∃ (i : Nat) (t : List UInt8), i + qq = 32 ∧ s51 = .int .i64 (i : Int) ∧ Crc.Turned (L t0) x f i t ∧ Crc.Bts Z g t wr)
  case atStart => exact ⟨0, L t0, by omega, rfl, Crc.Turned.zero _ _ _, M⟩
  case round =>
    clear M
    obtain ⟨i, t, hq, rfl, T, M⟩ := hrel
    have HQ := Lib.hid hq
    have HT := Lib.hid T
    have tl := T.1
    rw [L_len] at tl
    clear T
    by_cases lt : i < 32
    · have i1 : (i : Int) < 32 := by omega
      have i0 : (0 : Int) ≤ i := by omega
      cases hb : x.getLsbD i
      · have BT := bit_J x i
        rw [hb] at BT
        have TS := Lib.hid (HT.out.stay hb)
        clear hq hb
        go_wp2_with fail
        go_roundg (gk - 1)
        case measure => have := HQ.out; omega
        case rel =>
          go_light
          exact ⟨i + 1, t, by have := HQ.out; omega, by go_num, TS.out, M⟩
      · have BT := bit_J x i
        rw [hb] at BT
        obtain ⟨k, hk⟩ : ∃ k, k = f + i := ⟨_, rfl⟩
        have kq : k / 8 < t.length := by rw [tl]; have := HF.out; have := HB.out; omega
        obtain ⟨m, hm⟩ : ∃ m : UInt8, m.toNat = 2 ^ (k % 8) := two_pow (k % 8) (Nat.mod_lt _ (by decide))
        have TS := Lib.hid (HT.out.turn hb (by rw [← hk]; exact kq) m (by rw [← hk]; exact hm))
        have d := M.cell (k / 8) kq
        have fz := M.melt (k / 8) kq
        have X8 := Crc.xor_8 t[k / 8] m
        simp only [← hk] at TS
        generalize t[k / 8] ^^^ m = y at *
        generalize t[k / 8]'_ = y0 at *
        have kk : (f : Int) + (i : Int) = (k : Int) := by omega
        have q1 : ((k / 8 : Nat) : Int) < t0.size := by have := HF.out; have := HB.out; omega
        have q2 : (k : Int).tdiv 8 = ((k / 8 : Nat) : Int) := rfl
        have q3 : (k : Int).tmod 8 = ((k % 8 : Nat) : Int) := rfl
        have q4 : ((k / 8 : Nat) : Int).toNat = k / 8 := Int.toNat_natCast _
        have kl : (k : Int) < 3000 := by have := HF.out; have := HB.out; omega
        have r8 : ((k % 8 : Nat) : Int) < 8 := by omega
        have pm : (2 : Int) ^ (k % 8) % 256 = (m.toNat : Int) := by
          rw [hm, Int.natCast_pow, Int.emod_eq_of_lt (Int.pow_nonneg (by decide)) ?_]; rfl
          have : (2 : Nat) ^ (k % 8) < 256 := by rw [← hm]; exact m.toNat_lt
          exact_mod_cast this
        clear hq hb hk kq hm
        go_wp2_with fail
        go_region
        all_goals go_wp2_with fail
        all_goals go_roundg (gk - 1)
        case measure => have := HQ.out; omega
        case rel =>
          go_light
          exact ⟨i + 1, _, by have := HQ.out; omega, by go_num, TS.out, M.drew.set (k / 8) y⟩
    · obtain rfl : 32 = i := by omega
      have i1 : ¬ (32 : Int) < 32 := by decide
      have OO := BURST.out f t HT.out (by have := HF.out; have := HB.out; omega)
      have CV := Crc.conv_of (n := t0.size) (c := c) tl M.cell
      have KT := Lib.hid (fun W => open_any (bs t) (by rw [bs_size, tl]; omega) W)
      rw [L_bs] at KT
      clear hq tl lt
      rcases OO with O2 | O2
      · rw [O2] at KT
        clear O2
        go_wp2_with fail
        refine (KT.out _).mono ?_
        rintro e W3 ⟨rfl, B3⟩
        go_wp2_with fail
        refine (KF.out _).mono ?_
        rintro e W4 ⟨rfl, B4⟩
        go_wp2_with fail
        go_ret
        exact ⟨rfl, below_step (below_step (BS.out.trans (M.bl.mono BS.out.size)) B3) B4⟩
      · rw [O2] at KT
        clear O2
        go_wp2_with fail
        refine (KT.out _).mono ?_
        rintro e W3 ⟨rfl, B3⟩
        go_wp2_with fail
        refine (KF.out _).mono ?_
        rintro e W4 ⟨rfl, B4⟩
        go_wp2_with fail
        go_ret
        exact ⟨rfl, below_step (below_step (BS.out.trans (M.bl.mono BS.out.size)) B3) B4⟩

set_option maxRecDepth 100000 in
theorem lifted (os : Os) (started : os.Started) (H : Type) (enc : TypeId × Value → H) :
    ReturnsInHanded {} Try.checked os 5 .any (Rows.frameBurstSpec.pre6 enc Try.prog Try.f5 Rows.frameBurstRow.domain false) (Rows.frameBurstSpec.post enc Try.prog Try.f5 false true false false) := by
  refine returnsInHanded_of_change (C := Try.checked) own started (by kernel_rfl) Try.func5
    (ChangeSpec.witness6 (enc := enc) (C := Try.checked) false ⟨#[], #[.int .u8 0, .string ⟨#[]⟩, .int .u16 0, .int .u32 0], []⟩ 8 (by kernel_rfl) (by kernel_rfl) (by kernel_rfl) (by kernel_rfl)) ?_
  intro W base args ds gs before hval0 hW hcnd _
  have hval : ∀ (j : Nat) t v, Try.f5.params[j]? = some t → args[j]? = some v → Value.okWide Try.prog W .any base t v := hval0
  have hW' := hW
  obtain ⟨p, q, hA0, hV, rfl, _, _⟩ := hW
  have hA : DataW.TrodAll enc Try.prog W 0 (fun _ => true) true Try.f5.params.toList args.toList ds p := hA0
  rw [Try.params5] at hA hval
  obtain ⟨v0, v1, v2, v3, d0, d1, d2, d3, p0, p1, p2, p3, rfl, rfl, rfl, h0t, h1t, h2t, h3t⟩ := trodAll_four hA
  obtain ⟨rfl, rfl⟩ := trodVars_none hV
  obtain ⟨n0, rfl, hn0⟩ := open_u8 (hval 0 5 v0 rfl rfl) h0t
  obtain ⟨s1, rfl, -, -, hs1⟩ := Go.ChangeMaps.open_string Try.underlying9 (hval 1 9 v1 rfl rfl) h1t
  obtain ⟨n2, rfl, hn2⟩ := open_u16 (hval 2 34 v2 rfl rfl) h2t
  obtain ⟨x3, rfl⟩ := open_u32 (hval 3 35 v3 rfl rfl) h3t
  clear hA0 hval0
  simp only [List.append_nil] at hW'
  have hlt : ∀ x ∈ p0 ++ p1 ++ p2 ++ p3, x.block < W.heap.size := fun x hx => by simpa using hW'.lt x (by simpa using hx)
  refine (walk n0 hn0 s1 n2 hn2 x3 W).mono fun e W' ⟨he, hbl⟩ => ?_
  subst he
  refine ⟨_, rfl, post_args hW' (fun _ _ _ => trodAll_mk1 (shut_bool Try.underlying4 _)) ?_ (fun _ => rfl) hbl⟩
  have t0 := Below.trod laidOut readable_u8 typed_u8 h0t hbl (fun x hx => hlt x (List.mem_append_left _ (List.mem_append_left _ (List.mem_append_left _ hx))))
  have t1 := Below.trod laidOut readable_str typed_str h1t hbl (fun x hx => hlt x (List.mem_append_left _ (List.mem_append_left _ (List.mem_append_right _ hx))))
  have t2 := Below.trod laidOut readable_u16 typed_u16 h2t hbl (fun x hx => hlt x (List.mem_append_left _ (List.mem_append_right _ hx)))
  have t3 := Below.trod laidOut readable_u32 typed_u32 h3t hbl (fun x hx => hlt x (List.mem_append_right _ hx))
  exact (show p0 ++ (p1 ++ (p2 ++ p3)) = p0 ++ p1 ++ p2 ++ p3 by simp only [List.append_assoc]) ▸ trodAll_mk4 t0 t1 t2 t3

theorem proved : Rows.FrameBurstSaid :=
  OpenClaim.holds_of_wide 5 Try.f5 rfl rfl rfl rfl rfl rfl rfl ⟨rfl, rfl, rfl, rfl, rfl⟩ rfl rfl rfl rfl rfl (by kernel_rfl) Try.func5 (by kernel_rfl)
    (of_decide_eq_true (by kernel_rfl)) (by unfold Func.isWrapper; first | (rw [if_pos (by decide +kernel)]; kernel_rfl) | (rw [if_neg (by decide +kernel)]; exact ⟨rfl, rfl⟩))
    (fun os started H enc _ => lifted os started H enc)
#print axioms proved
end Go.Proofs.Ythbgbgobfoecoaa.frameBurst
