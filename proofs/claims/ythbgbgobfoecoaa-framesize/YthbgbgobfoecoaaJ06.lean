/- Rows of bytes that a call makes: an own row, and what append does to it. The program's walks of Number and lowestFirst. The program's walks of Text, Nat, Rat, Wide; Done. Both sides' bases at once. The program's sum in four bytes; its kinds; what begins as a frame does. The program's Seal. The program's Open. The fixed answer of the stage. Arguments opened; the rows' last step. -/
import Derived.Test.YthbgbgobfoecoaaJ04
import Derived.Laws.AppendOwnNone
import Derived.ArgAppend
import Derived.Laws.BytesArg
import Derived.Laws.IdiomStrings
import Derived.Laws.BitsAllLaws
import Derived.Test.YthbgbgobfoecoaaJ05
import Derived.Test.YthbgbgobfoecoaaJ03
import Derived.ProofKit
import Derived.OpenShut
import Derived.Carry
import Derived.Lay
import Derived.ChangeMaps5
import Derived.Lib.SmallJoins
namespace Go.Proofs.Ythbgbgobfoecoaa
open Go.RowKit
set_option linter.unusedVariables false
set_option linter.unusedSimpArgs false
set_option maxHeartbeats 1000000
set_option maxRecDepth 100000
abbrev bv8 (b : UInt8) : Value := .int .u8 (b.toNat : Int)
/-- The slice v is just these bytes, in a block from base on; behind them it may be written. -/
def OwnB (W : World) (base : Nat) (v : Value) (l : List UInt8) : Prop :=
  (v = .slice none 0 0 ∧ l = []) ∨ ∃ g cap, v = .slice (some ⟨g, 0, none⟩) l.length cap ∧ base ≤ g ∧ g < W.heap.size ∧ l.length ≤ cap ∧ cap ≤ maxLen ∧
    (∀ (j : Nat) (h : j < l.length), W.cell? ⟨g, j, none⟩ = some (bv8 l[j])) ∧ (∀ j, l.length ≤ j → j < cap → (W.cell? ⟨g, j, none⟩).isSome = true ∧ W.frozen? ⟨g, j, none⟩ = false)
section
variable {W W' : World} {base : Nat} {v : Value} {l : List UInt8}
theorem OwnB.nil (W : World) (base : Nat) : OwnB W base (.slice none 0 0) [] := Or.inl ⟨rfl, rfl⟩
theorem OwnB.next (h : OwnB W base v l) (hb : Below W.heap.size W W') : OwnB W' base v l := by
  rcases h with ⟨a, b⟩ | ⟨g, cap, e, h0, h1, h2, h3, h4, h5⟩
  · exact Or.inl ⟨a, b⟩
  · refine Or.inr ⟨g, cap, e, h0, Nat.lt_of_lt_of_le h1 hb.size, h2, h3, fun j hj => keep_cell hb (h4 j hj), fun j a b => ?_⟩
    obtain ⟨c, d⟩ := h5 j a b
    rw [hb.cell (p := ⟨g, j, none⟩) h1, hb.frozen (p := ⟨g, j, none⟩) h1]
    exact ⟨c, d⟩
theorem OwnB.drew (h : OwnB W base v l) : OwnB W.drew base v l := h.next (Below.refl _ _).drew
theorem OwnB.alloc (h : OwnB W base v l) (o : Obj) : OwnB (W.alloc o) base v l := h.next ((Below.refl _ _).alloc (Nat.le_refl _) o)
theorem OwnB.conv (h : OwnB W base v l) : (convert 36 9 v).run Try.prog W = .ok (.string (bs l)) W := by
  rcases h with ⟨rfl, rfl⟩ | ⟨g, cap, rfl, _, _, _, _, h4, _⟩
  · exact run_convert_bytes_string W 36 9 5 none 0 0 Try.underlying36 Try.underlying5 Try.underlying9
  · exact run_convert_bytes_back W 36 9 5 ⟨g, 0, none⟩ cap l Try.underlying36 Try.underlying5 Try.underlying9 (fun j hj => by
      have : (⟨g, 0, none⟩ : Addr).add j = ⟨g, j, none⟩ := by unfold Addr.add; split <;> simp_all
      rw [this]; exact h4 j hj)
/-- What is owned in the library's sense is owned in this. -/
theorem OwnB.of_own (h : W.ownsRow base 5 1 v l.length (l.map bv8)) : OwnB W base v l := by
  rcases h.2 with ⟨rfl, e⟩ | ⟨g, cap, cur, rfl, hb, h1, h2, h3, h4, h5⟩
  · exact Or.inl ⟨rfl, List.eq_nil_of_length_eq_zero e⟩
  · rw [Nat.mul_one] at h4 h5
    refine Or.inr ⟨g, cap, rfl, hb, (Array.getElem?_eq_some_iff.1 h1).1, h2, h3, fun j hj => ?_, fun j a b => ?_⟩
    · have e : cur[j]? = some (bv8 l[j]) := by
        have : (cur.toList.take l.length)[j]? = some (bv8 l[j]) := by rw [h5]; simp [hj]
        rw [List.getElem?_take, if_pos hj] at this
        simpa using this
      simp [World.cell?, h1, e]
    · have hj : j < cur.size := by omega
      constructor
      · simp [World.cell?, h1, hj]
      · simp [World.frozen?, h1]
theorem info_u8 : (Try.prog.info? 5).map (fun i => (i.zero, i.size, i.bytes)) = some (some (.int .u8 0), 1, 1) := by kernel_rfl
/-- One byte more. -/
theorem run_appendB (h : OwnB W base v l) (hbase : base ≤ W.heap.size) (b : UInt8) {ad : Addr} {c : Nat} (ha : W.cell? (ad.add 0) = some (bv8 b)) (hs : l.length ≤ 1099511627776) :
    ∃ v' w', (Builtin.append_ #[36, 36] 36 #[v, .slice (some ad) 1 c]).run Try.prog W = .ok v' w' ∧ OwnB w' base v' (l ++ [b]) ∧ Below base W w' := by
  obtain ⟨i0, hi, hz0, hz1, hz2⟩ := info_parts info_u8
  have hnews : ∀ j u, ([bv8 b] : List Value)[j]? = some u → W.cell? (ad.add j) = some u := by
    intro j u hj
    cases j with
    | zero => simp at hj; rw [← hj]; exact ha
    | succ j => simp at hj
  have hbig : l.length + 1 ≤ maxLen := by unfold maxLen; omega
  by_cases hr : ∃ g cap, v = .slice (some ⟨g, 0, none⟩) l.length cap ∧ base ≤ g ∧ g < W.heap.size ∧ l.length + 1 ≤ cap ∧ cap ≤ maxLen ∧
    (∀ (j : Nat) (h : j < l.length), W.cell? ⟨g, j, none⟩ = some (bv8 l[j])) ∧ (∀ j, l.length ≤ j → j < cap → (W.cell? ⟨g, j, none⟩).isSome = true ∧ W.frozen? ⟨g, j, none⟩ = false)
  · obtain ⟨g, cap, rfl, h0, h1, h2, h3, h4, h5⟩ := hr
    have R := run_append_room_cells (P := Try.prog) W 36 36 5 i0 Try.underlying36 hi g 0 l.length cap ad 1 c [bv8 b] (by rw [hz1]; rfl) hnews (by intro u hu; rw [List.mem_singleton] at hu; rw [hu]; rfl) h2
      (fun j hj => by
        have : j = 0 := by simpa using hj
        subst this
        rw [hz1, show 0 + l.length * 1 + 0 = l.length by omega]
        exact (h5 _ (Nat.le_refl _) (by omega)).1)
      (fun j hj => by
        have : j = 0 := by simpa using hj
        subst this
        rw [hz1, show 0 + l.length * 1 + 0 = l.length by omega]
        exact (h5 _ (Nat.le_refl _) (by omega)).2)
    rw [hz1, show 0 + l.length * 1 = l.length by omega, show W.setCells g l.length [bv8 b] = W.setCell ⟨g, l.length, none⟩ (bv8 b) from rfl] at R
    refine ⟨_, _, R, Or.inr ⟨g, cap, by simp, h0, by simpa [World.setCell] using h1, by simp; omega, h3, fun j hj => ?_, fun j a b' => ?_⟩, below_set (Below.refl _ _) h0 _⟩
    · by_cases e : j = l.length
      · subst e
        have s := (h5 l.length (Nat.le_refl _) (by omega)).1
        obtain ⟨x, hx⟩ := Option.isSome_iff_exists.1 s
        rw [World.cell?_setCell_same _ _ _ hx]
        simp
      · have lt : j < l.length := by simp at hj; omega
        rw [World.cell?_setCell_other _ _ _ _ (fun k => e (by cases k; rfl)), h4 j lt, List.getElem_append_left lt]
    · have lt : l.length < j := by simp at a; omega
      rw [World.cell?_setCell_other _ _ _ _ (fun k => by cases k; omega), World.frozen?_setCell]
      exact h5 j (by omega) b'
  · have grown : ∀ v2 w2, w2.ownsRow W.heap.size 5 1 v2 (l.length + 1) (l.map bv8 ++ [bv8 b]) → W.grownBy w2 none → OwnB w2 base v2 (l ++ [b]) ∧ Below base W w2 := by
      intro v2 w2 ho hg
      have O : OwnB w2 W.heap.size v2 (l ++ [b]) := OwnB.of_own (by rw [List.length_append, List.map_append]; exact ho)
      refine ⟨?_, (Below.refl base W).grown hg hbase (fun k hk => by cases hk)⟩
      rcases O with x | ⟨g, cap, e, a, r⟩
      · exact Or.inl x
      · exact Or.inr ⟨g, cap, e, Nat.le_trans hbase a, r⟩
    rcases h with ⟨rfl, rfl⟩ | ⟨g, cap, rfl, h0, h1, h2, h3, h4, h5⟩
    · have ⟨v2, w2, r, o, gr, _⟩ := run_append_own (P := Try.prog) W W.heap.size 36 36 5 i0 (.int .u8 0) 1 1 Try.underlying36 hi hz0 hz1 hz2 rfl (by decide) (.slice none 0 0) 0 [] (World.ownsRow_nil _ _ _ _) ad 1 c [bv8 b] rfl hnews (by intro u hu; rw [List.mem_singleton] at hu; rw [hu]; rfl) (by unfold maxLen; omega) (by omega) (Nat.le_refl _)
      exact ⟨v2, w2, r, grown v2 w2 o gr⟩
    · have nr : cap < l.length + 1 := by
        apply Decidable.byContradiction
        intro k
        exact hr ⟨g, cap, rfl, h0, h1, by omega, h3, h4, h5⟩
      obtain ⟨v2, w2, r, o, gr⟩ := run_append_arg_grows (P := Try.prog) W 36 36 5 i0 (.int .u8 0) 1 1 Try.underlying36 hi hz0 hz1 hz2 rfl (by decide) ⟨g, 0, none⟩ l.length cap (l.map bv8) (by simp)
        (fun j u hj => by
          have hj2 : j < l.length := by
            have := (List.getElem?_eq_some_iff.1 hj).1
            simpa using this
          have : (⟨g, 0, none⟩ : Addr).add j = ⟨g, j, none⟩ := by unfold Addr.add; split <;> simp_all
          rw [this, h4 j hj2]
          simp [hj2] at hj
          rw [← hj])
        ad 1 c [bv8 b] rfl hnews nr hbig (by omega)
      exact ⟨v2, w2, r, grown v2 w2 o gr⟩
end
/-- .. for the walk. -/
theorem wpList_appendB {ops : Array Oper} {rest : List Oper} {o : Oper} {a : Act} {Q : Exit → Act → World → Prop} (W : World) (hgd : o.guard = none) (s x : Operand)
    (ho : o.op = .call { callee := .builtin .append, args := #[s, x], argTypes := #[36, 36] }) (hty : o.type = 36) (base : Nat) {v : Value} {l : List UInt8} (hs : a.eval s = v) (h : OwnB W base v l) (hbase : base ≤ W.heap.size) (b : UInt8)
    {ad : Addr} {c : Nat} (hx : a.eval x = .slice (some ad) 1 c) (ha : W.cell? (ad.add 0) = some (bv8 b)) (hl : l.length ≤ 1099511627776)
    (hK : ∀ v' w', OwnB w' base v' (l ++ [b]) → Below base W w' → wpList Try.prog ops Q rest (a.put o.dst v') w') : wpList Try.prog ops Q (o :: rest) a W := by
  refine wpList_plain hgd fun K hK' => ?_
  obtain ⟨v', w', hrun, r1, r2⟩ := run_appendB h hbase b ha hl
  unfold Oper.wp execOp
  simp only [ho, hty, resolve, invoke, builtin, Sem.run_bind, Sem.run_pure, Result.andThen_ok, List.map_toArray, List.map_cons, List.map_nil, hs, hx]
  erw [hrun]
  exact hK' _ _ (hK v' w' r1 r2)
end Go.Proofs.Ythbgbgobfoecoaa
namespace Go.Proofs.Ythbgbgobfoecoaa
open Go.RowKit
set_option linter.unusedVariables false
set_option linter.unusedSimpArgs false
set_option maxHeartbeats 1000000
set_option maxRecDepth 100000
theorem or_128 : ∀ k : Nat, k < 256 → k ||| 128 = 128 + k % 128 := by decide
theorem or8_high (q : Nat) : ∃ b : UInt8, bits BinOp.or IntKind.u8 ((q : Int) % 256) 128 = (b.toNat : Int) ∧ b = by8 (128 + q % 128) := by
  refine ⟨by8 (128 + q % 128), ?_, rfl⟩
  rw [by8_toNat (by omega), show (q : Int) % 256 = ((q % 256 : Nat) : Int) from rfl, show (128 : Int) = ((128 : Nat) : Int) from rfl, u8_or_nat _ _ (by omega) (by decide), or_128 _ (by omega)]
  congr 1
  omega
theorem byte_of (q : Nat) : ∃ b : UInt8, (q : Int) % 256 = (b.toNat : Int) ∧ b = by8 (q % 256) := by
  refine ⟨by8 (q % 256), ?_, rfl⟩
  rw [by8_toNat (by omega)]; rfl
theorem wNumber_any (n : Nat) (hn : n < 18446744073709551616) (w : World) : Calls Try.prog 22 #[.int .u64 (n : Int)] w fun e w' => e = .returned (.string (bs (enc n))) ∧ Below w.heap.size w w' := by
  have H10 := Lib.hid (enc_ten hn)
  go_enter Try.func22, Try.ntmps22
  go_wp2_with fail
  go_loopg [0, 3] n (fun q s0 s3 wr => ∃ l : List UInt8, s0 = .int .u64 (q : Int) ∧ q < 18446744073709551616 ∧ Hid (l ++ enc q = enc n) ∧ OwnB wr w.heap.size s3 l ∧ Below w.heap.size w wr)
  case atStart => exact ⟨[], rfl, hn, rfl, OwnB.nil _ _, Below.refl _ _⟩
  case round =>
    obtain ⟨l, rfl, hq, he, OB, BL⟩ := hrel
    obtain ⟨m, rfl⟩ : ∃ m, m = gk := ⟨_, rfl⟩
    have hs : l.length ≤ 10 := by
      have := congrArg List.length he.out
      rw [List.length_append] at this
      have := H10.out
      omega
    have OBH := Lib.hid OB
    have BH := Lib.hid BL
    by_cases hm : m < 128
    · have h1 : ¬ (128 : Int) ≤ m := by omega
      obtain ⟨b, e1, e2⟩ := byte_low (show m < 256 by omega)
      have ES : Hid (l ++ [b] = enc n) := by
        unfold Hid
        rw [← he.out, enc_low hm, e2]
      clear e2 OB BL he hm
      go_wp2_with (at_builtin; refine wpList_appendB _ rfl _ _ rfl rfl w.heap.size rfl (OBH.out.alloc _) (by have := BH.out.size; simp; omega) b (ad := ⟨wr.heap.size, 0, none⟩) (c := 1) rfl ?qc2 (by omega) ?_)
      intro v9 w9 O9 B9
      have CV := O9.conv
      have BZ := Lib.hid (((BH.out.alloc BH.out.size _).trans B9 : Below w.heap.size w w9))
      clear O9 B9
      go_wp2_with fail
      go_ret
      exact ⟨by rw [← ES.out]; rfl, BZ.out⟩
    · have h1 : (128 : Int) ≤ m := by omega
      obtain ⟨b, e1, e2⟩ := or8_high m
      have ES : Hid ((l ++ [b]) ++ enc (m / 128) = enc n) := by
        unfold Hid
        rw [← he.out, enc_high hm, e2, List.append_assoc]; rfl
      have HM := Lib.hid hm
      clear e2 OB BL he hm
      go_wp2_with (at_builtin; refine wpList_appendB _ rfl _ _ rfl rfl w.heap.size rfl (OBH.out.alloc _) (by have := BH.out.size; simp; omega) b (ad := ⟨wr.heap.size, 0, none⟩) (c := 1) rfl ?rc2 (by omega) ?_)
      case rc2 => exact cell_one_new wr _ _ 0 _ rfl
      intro v9 w9 O9 B9
      have OZ := Lib.hid O9
      have BZ := Lib.hid (((BH.out.alloc BH.out.size _).trans B9 : Below w.heap.size w w9))
      clear O9 B9
      go_wp2_with fail
      go_roundg (m / 128)
      case measure => have := HM.out; omega
      case rel =>
        go_light
        exact ⟨l ++ [b], by go_num, by omega, ES.out, OZ.out, BZ.out⟩
end Go.Proofs.Ythbgbgobfoecoaa
namespace Go.Proofs.Ythbgbgobfoecoaa
open Go.RowKit
set_option linter.unusedVariables false
set_option linter.unusedSimpArgs false
set_option maxHeartbeats 1000000
set_option maxRecDepth 100000
theorem wText_any (s : ByteArray) (hs : s.size ≤ 1000) (w : World) : Calls Try.prog 16 #[.string s] w fun e w' => e = .returned (.string (bs (enc s.size ++ L s))) ∧ Below w.heap.size w w' := by
  have K := Lib.hid (wNumber_any s.size (by omega))
  have H10 := enc_ten (show s.size < 18446744073709551616 by omega)
  have wz : IntKind.u64.wrap (s.size : Int) = s.size := by rw [IntKind.wrap_u64]; omega
  have E : Hid (bs (enc s.size) ++ s = bs (enc s.size ++ L s)) := L_inj (by rw [L_app, L_bs, L_bs])
  obtain ⟨t, ht⟩ : ∃ t, t = bs (enc s.size) := ⟨_, rfl⟩
  have tz : t.size ≤ 10 := by rw [ht, bs_size]; exact H10
  rw [← ht] at K E
  have hadd : ∀ W : World, (Op.stringOp .add t s).run Try.prog W = .ok (.string (t ++ s)) W := fun W => run_string_add_sum W t s (by omega)
  have hle : ¬ (9223372036854775807 < t.size + s.size) := by omega
  clear ht H10
  go_enter Try.func16, Try.ntmps16
  go_wp2_with fail
  refine (K.out _).mono ?_
  rintro e z ⟨rfl, B⟩
  go_wp2_with fail
  go_ret
  exact ⟨by rw [← E.out]; rfl, B⟩
/-- The bytes of a text, made anew. -/
theorem bytesB_new (W : World) (s : ByteArray) (hs : s.size ≤ 100000) : ∃ (v : Value) (W' : World), (convert 9 36 (.string s)).run Try.prog W = .ok v W' ∧ OwnB W' W.heap.size v (L s) ∧ Below W.heap.size W W' := by
  have hge := grownCap_ge W s.size 0 5
  have hle : grownCap W s.size 0 5 ≤ maxLen := grownCap_le_maxLen W s.size 0 5 (by unfold maxLen; omega)
  have R := run_bytes_of_string (P := Try.prog) W 9 36 5 s Try.underlying9 Try.underlying36 Try.underlying5
  generalize grownCap W s.size 0 5 = cap at *
  have sz : (bytesRow s cap).size = cap := by unfold bytesRow; simp; have : s.data.size = s.size := rfl; omega
  have sl : s.data.size = (L s).length := by simp
  refine ⟨_, _, R, Or.inr ⟨W.heap.size, cap, by rw [L_len], Nat.le_refl _, by simp [World.alloc], by rw [L_len]; exact hge, hle, fun j hj => ?_, fun j a b => ?_⟩, below_al (Below.refl _ _).drew _⟩
  · have := World.cell?_alloc_mark W.drew (bytesRow s cap) 5 ((bytesRow s cap).size, (bytesRow s cap).size + 1) j
    rw [bytesRow_at s _ j (by omega)] at this
    exact this
  · have e1 := World.cell?_alloc_mark W.drew (bytesRow s cap) 5 ((bytesRow s cap).size, (bytesRow s cap).size + 1) j
    have e2 := World.frozen?_alloc_mark W.drew (bytesRow s cap) 5 (bytesRow s cap).size ((bytesRow s cap).size + 1) j
    rw [show (decide ((bytesRow s cap).size ≤ j) && decide (j < (bytesRow s cap).size + 1)) = false by rw [decide_eq_false (by omega), Bool.false_and]] at e2
    refine ⟨?_, e2⟩
    have e3 : (bytesRow s cap)[j]?.isSome = true := by
      rw [Array.getElem?_eq_getElem (by omega)]; rfl
    rw [← e1] at e3
    exact e3
end Go.Proofs.Ythbgbgobfoecoaa
namespace Go.Proofs.Ythbgbgobfoecoaa
open Go.RowKit
/-- The program's sum, where the sum ahead is 0. -/
theorem fmore_zero (s : ByteArray) (hs : s.size ≤ 100000) (w : World) : Calls Try.prog 32 #[.int .u32 0, .string s] w fun e w' => e = .returned (.int .u32 ((Crc.crcMore 0#32 (L s)).toNat : Int)) ∧ Below w.heap.size w w' := by
  have K := Crc.more_any 0#32 s hs w
  have J0 : Crc.J 0#32 = 0 := by unfold Crc.J; rfl
  rw [J0, Crc.J_eq] at K
  exact K
end Go.Proofs.Ythbgbgobfoecoaa
namespace Go.Proofs.Ythbgbgobfoecoaa
open Go.RowKit
set_option linter.unusedVariables false
set_option linter.unusedSimpArgs false
set_option maxHeartbeats 2000000
set_option maxRecDepth 100000
theorem fSum_any (s : ByteArray) (hs : s.size ≤ 100000) (w : World) : Calls Try.prog 17 #[.string s] w fun e w' => e = .returned (.string (bs (fsum (L s)))) ∧ Below w.heap.size w w' := by
  have KM := Lib.hid (fun W => Crc.sum_any s hs W)
  rw [Crc.crcSum_eq, Crc.J_eq] at KM
  obtain ⟨a, b, c, d, E, ea, eb, ec, ed⟩ := le4_is (Crc.crcMore 0#32 (Crc.L s))
  have ER := Lib.hid (show bs [a, b, c, d] = bs (fsum (L s)) by unfold fsum; rw [← E])
  have hx : (Crc.crcMore 0#32 (Crc.L s)).toNat < 4294967296 := (Crc.crcMore 0#32 (Crc.L s)).isLt
  clear E
  generalize (Crc.crcMore 0#32 (Crc.L s)).toNat = x at *
  go_enter Try.func17, Try.ntmps17
  go_wp2_with fail
  refine (KM.out _).mono ?_
  rintro e W ⟨rfl, B⟩
  have u1 : IntKind.u8.wrap (x : Int) = (a.toNat : Int) := by rw [IntKind.wrap_u8]; omega
  have u2 : IntKind.u8.wrap ((x : Int) / 256) = (b.toNat : Int) := by rw [IntKind.wrap_u8]; omega
  have u3 : IntKind.u8.wrap ((x : Int) / 65536) = (c.toNat : Int) := by rw [IntKind.wrap_u8]; omega
  have u4 : IntKind.u8.wrap ((x : Int) / 16777216) = (d.toNat : Int) := by rw [IntKind.wrap_u8]; omega
  have hcv := conv_four W a b c d 4
  go_wp2_with fail
  go_ret
  exact ⟨by rw [ER.out]; rfl, below_al B _⟩
theorem isKind_any (k : Int) (w : World) : Calls Try.prog 15 #[.int .i64 k] w fun e w' => e = .returned (.bool (decide (1 ≤ k) && decide (k ≤ 8))) ∧ w = w' := by
  go_enter Try.func15, Try.ntmps15
  by_cases h1 : 1 ≤ k
  · by_cases h8 : k ≤ 8
    · go_wp2_with fail
      go_ret
      exact ⟨by simp [h1, h8], rfl⟩
    · go_wp2_with fail
      go_ret
      exact ⟨by simp [h1, h8], rfl⟩
  · go_wp2_with fail
    go_ret
    exact ⟨by rw [decide_eq_false (p := 1 ≤ k) (by omega), Bool.false_and]; rfl, rfl⟩
/-- What begins as a frame does, before the kind. -/
def fstart : List UInt8 := [83, 77, 80, 72, 1]
theorem cut_yes (r : List UInt8) (w : World) : Calls Try.prog 25 #[.string (bs (fstart ++ r)), .string ⟨#[83, 77, 80, 72, 1]⟩] w fun e w' => e = .returned (.tuple #[.string (bs r), .bool true]) ∧ w = w' := by
  refine (Try.strings_CutPrefix _ _ w).mono ?_
  rintro e w' ⟨rfl, rfl⟩
  have h : Lib.hasPrefix (fstart ++ r) fstart = true := by unfold Lib.hasPrefix; rw [List.isPrefixOf_iff_prefix]; exact List.prefix_append _ _
  refine ⟨?_, rfl⟩
  show Ending.returned (.tuple #[.string ⟨(Lib.trimPrefix (fstart ++ r) fstart).toArray⟩, .bool (Lib.hasPrefix (fstart ++ r) fstart)]) = _
  unfold Lib.trimPrefix
  rw [h, if_pos rfl, List.drop_left]
theorem cut_no (s : ByteArray) (h : ∀ r, L s ≠ fstart ++ r) (w : World) : Calls Try.prog 25 #[.string s, .string ⟨#[83, 77, 80, 72, 1]⟩] w fun e w' => e = .returned (.tuple #[.string s, .bool false]) ∧ w = w' := by
  refine (Try.strings_CutPrefix _ _ w).mono ?_
  rintro e w' ⟨rfl, rfl⟩
  have h : Lib.hasPrefix (L s) fstart = false := by
    cases q : Lib.hasPrefix (L s) fstart with
    | false => rfl
    | true =>
      unfold Lib.hasPrefix at q
      rw [List.isPrefixOf_iff_prefix] at q
      obtain ⟨r, e⟩ := q
      exact absurd e.symm (h r)
  refine ⟨?_, rfl⟩
  show Ending.returned (.tuple #[.string ⟨(Lib.trimPrefix (L s) fstart).toArray⟩, .bool (Lib.hasPrefix (L s) fstart)]) = _
  unfold Lib.trimPrefix
  rw [h, if_neg (by decide)]
theorem kind_no (s : ByteArray) (h : ∀ r, L s ≠ fstart ++ r) (w : World) : Calls Try.prog 19 #[.string s] w fun e w' => e = .returned (.tuple #[.int .i64 0, .bool false]) ∧ w = w' := by
  have K := Lib.hid (cut_no s h)
  clear h
  go_enter Try.func19, Try.ntmps19
  go_wp2_with fail
  refine (K.out _).mono ?_
  rintro e W ⟨rfl, rfl⟩
  go_wp2_with fail
  go_ret2
  exact ⟨rfl, rfl⟩
theorem kind_nil (w : World) : Calls Try.prog 19 #[.string (bs (fstart ++ []))] w fun e w' => e = .returned (.tuple #[.int .i64 0, .bool false]) ∧ w = w' := by
  have K := Lib.hid (cut_yes [])
  generalize bs (fstart ++ []) = s at *
  go_enter Try.func19, Try.ntmps19
  go_wp2_with fail
  refine (K.out _).mono ?_
  rintro e W ⟨rfl, rfl⟩
  go_wp2_with fail
  go_ret2
  exact ⟨rfl, rfl⟩
theorem kind_at (b : UInt8) (r : List UInt8) (w : World) : Calls Try.prog 19 #[.string (bs (fstart ++ b :: r))] w fun e w' => e = .returned (.tuple #[.int .i64 (b.toNat : Int), .bool (decide (1 ≤ (b.toNat : Int)) && decide ((b.toNat : Int) ≤ 8))]) ∧ w = w' := by
  have K := Lib.hid (cut_yes (b :: r))
  have KK := Lib.hid (isKind_any (b.toNat : Int))
  generalize bs (fstart ++ b :: r) = s at *
  obtain ⟨t, ht⟩ : ∃ t, t = bs (b :: r) := ⟨_, rfl⟩
  rw [← ht] at K
  have t0 : 0 < t.size := by rw [ht, bs_size, List.length_cons]; omega
  have ti : (0 : Int) < t.size := by omega
  have te : (t.toList == []) = false := by rw [ByteArray.toList_eq, ht]; rfl
  have tb : t[0]'t0 = b := by subst ht; rfl
  have tu : t.toList.isEmpty = false := by rw [ByteArray.toList_eq, ht]; rfl
  clear ht
  generalize (decide (1 ≤ (b.toNat : Int)) && decide ((b.toNat : Int) ≤ 8)) = o at *
  have bl : (b.toNat : Int) < 256 := by have := b.toNat_lt; omega
  have wb : IntKind.i64.wrap (b.toNat : Int) = (b.toNat : Int) := by rw [IntKind.wrap_i64]; omega
  go_enter Try.func19, Try.ntmps19
  go_wp2_with fail
  refine (K.out _).mono ?_
  rintro e W ⟨rfl, rfl⟩
  go_wp2_with fail
  refine (KK.out _).mono ?_
  rintro e W ⟨rfl, rfl⟩
  go_wp2_with fail
  go_ret2
  exact ⟨rfl, rfl⟩
end Go.Proofs.Ythbgbgobfoecoaa
namespace Go.Proofs.Ythbgbgobfoecoaa
open Go.RowKit
set_option linter.unusedVariables false
set_option linter.unusedSimpArgs false
set_option maxHeartbeats 2000000
set_option maxRecDepth 100000
/-- One byte that lies somewhere, as a text. -/
theorem conv_one8 (W : World) (g : Nat) (b : UInt8) (n : Nat) (h0 : W.cell? ⟨g, 0, none⟩ = some (.int .u8 (b.toNat : Int))) :
    (convert 36 9 (.slice (some ⟨g, 0, none⟩) 1 n)).run Try.prog W = .ok (.string (bs [b])) W := by
  exact run_convert_bytes_back _ 36 9 5 ⟨g, 0, none⟩ n [b] Try.underlying36 Try.underlying5 Try.underlying9 (fun j hj => by
    have hj0 : j < 1 := by simpa using hj
    have e : (⟨g, 0, none⟩ : Addr).add j = ⟨g, j, none⟩ := by unfold Addr.add; split <;> simp_all
    rw [e]
    rcases j with _ | j
    · exact h0
    · exfalso; omega)
theorem new_one8 (W : World) (a : Value) (t : TypeId) : (W.alloc (.cells #[a] t)).cell? ⟨W.heap.size, 0, none⟩ = some a := by
  show (match (W.alloc (.cells #[a] t)).heap[W.heap.size]? with | some (.cells c _ _) => if (none : Option Nat).isSome then none else c[0]? | _ => none) = _
  rw [heap_alloc_new]; rfl
theorem one_head (W : World) (b : UInt8) : (convert 36 9 (.slice (some ⟨W.heap.size, 0, none⟩) 1 1)).run Try.prog (W.alloc (.cells #[.int .u8 (b.toNat : Int)] 5)) = .ok (.string (bs [b])) (W.alloc (.cells #[.int .u8 (b.toNat : Int)] 5)) :=
  conv_one8 _ _ b 1 (new_one8 W _ _)
theorem one_headd (W : World) (b : UInt8) : (convert 36 9 (.slice (some ⟨W.heap.size, 0, none⟩) 1 1)).run Try.prog (W.alloc (.cells #[.int .u8 (b.toNat : Int)] 5)).drew = .ok (.string (bs [b])) (W.alloc (.cells #[.int .u8 (b.toNat : Int)] 5)).drew :=
  conv_one8 _ _ b 1 (new_one8 W _ _)
theorem one_kept {W w1 : World} {b : UInt8} (B : Below (W.alloc (.cells #[.int .u8 (b.toNat : Int)] 5)).heap.size (W.alloc (.cells #[.int .u8 (b.toNat : Int)] 5)).drew w1) :
    (convert 36 9 (.slice (some ⟨W.heap.size, 0, none⟩) 1 1)).run Try.prog w1 = .ok (.string (bs [b])) w1 :=
  conv_one8 _ _ b 1 (keep_cell (W := (W.alloc (.cells #[.int .u8 (b.toNat : Int)] 5)).drew) B (new_one8 W _ _))
theorem seal_ok (k : Nat) (h1 : 1 ≤ k) (h8 : k ≤ 8) (s : ByteArray) (hs : s.size ≤ 1000) (w : World) : Calls Try.prog 10 #[.int .i64 (k : Int), .string s] w fun e w' => e = .returned (.tuple #[.string (bs (fseal k (L s))), .int .i64 0]) ∧ Below w.heap.size w w' := by
  have KI := Lib.hid (isKind_any (k : Int))
  have ki : (decide (1 ≤ (k : Int)) && decide ((k : Int) ≤ 8)) = true := by simp; omega
  rw [ki] at KI
  have KN := Lib.hid (fun W => wText_any s (by omega) W)
  have H10 := Lib.hid (enc_ten (show s.size < 18446744073709551616 by omega))
  obtain ⟨b, eb, eb2⟩ := byte_low (show k < 256 by omega)
  have l6 : ¬ (65536 : Int) < s.size := by omega
  have EB := Lib.hid eb2
  have WB : IntKind.u8.wrap (k : Int) = (b.toNat : Int) := by rw [← eb]; unfold IntKind.wrap; simp [IntKind.signed, IntKind.bits]; omega
  clear eb eb2 ki
  obtain ⟨en, hen⟩ : ∃ x, x = bs (enc s.size ++ L s) := ⟨_, rfl⟩
  rw [← hen] at KN
  have sen : en.size ≤ 1010 := by rw [hen, bs_size, List.length_append, L_len]; have := H10.out; omega
  obtain ⟨x1, hx1⟩ : ∃ x, x = (⟨#[83, 77, 80, 72, 1]⟩ : ByteArray) ++ bs [b] := ⟨_, rfl⟩
  have sx1 : x1.size = 6 := by rw [hx1, ByteArray.size_append]; rfl
  obtain ⟨x3, hx3⟩ : ∃ x, x = x1 ++ en := ⟨_, rfl⟩
  have sx3 : x3.size ≤ 1016 := by rw [hx3, ByteArray.size_append]; omega
  have ex3 : x3 = bs (fbody k (L s)) := by
    apply L_inj
    rw [hx3, hx1, hen, L_app, L_app, L_bs, L_bs, EB.out]
    unfold fbody fhead
    rw [L_len]
    rfl
  have a1 : ∀ W : World, (Op.stringOp .add (⟨#[83, 77, 80, 72, 1]⟩ : ByteArray) (bs [b])).run Try.prog W = .ok (.string x1) W := fun W => by rw [hx1]; exact run_string_add_sum W _ _ (by show (5 : Nat) + 1 ≤ _; omega)
  have a2 : ∀ W : World, (Op.stringOp .add x1 en).run Try.prog W = .ok (.string x3) W := fun W => by rw [hx3]; exact run_string_add_sum W _ _ (by omega)
  have KS := Lib.hid (fun W => fSum_any x3 (by omega) W)
  obtain ⟨y, hy⟩ : ∃ x, x = bs (fsum (L x3)) := ⟨_, rfl⟩
  rw [← hy] at KS
  have sy : y.size = 4 := by rw [hy]; rfl
  obtain ⟨x4, hx4⟩ : ∃ x, x = x3 ++ y := ⟨_, rfl⟩
  have EX : Hid (x4 = bs (fseal k (L s))) := by
    apply L_inj
    rw [hx4, hy, L_app, ex3]
    rfl
  have a4 : ∀ W : World, (Op.stringOp .add x3 y).run Try.prog W = .ok (.string x4) W := fun W => by rw [hx4]; exact run_string_add_sum W _ _ (by omega)
  clear hy hx4 sy
  have SX := Lib.hid sx3
  clear hx1 hx3 hen sen sx1 ex3 sx3
  go_enter Try.func10, Try.ntmps10
  go_wp2_with fail
  refine (KI.out _).mono ?_
  rintro e W ⟨rfl, rfl⟩
  go_wp2_with fail
  have hcv := fun W : World => one_head W b
  have hcd := fun W : World => one_headd W b
  go_region_with (first | (go_at_call 16; refine (KN.out _).mono ?_; rintro e w1 ⟨rfl, B1⟩; first | have hcw := one_kept B1 | skip))
  all_goals go_wp2_with fail
  all_goals refine (KS.out _).mono ?_
  all_goals (rintro e w2 ⟨rfl, B2⟩; go_wp2_with fail; go_ret2)
  all_goals refine ⟨by rw [← EX.out]; rfl, ?_⟩
  all_goals first
    | exact below_step (bl1 B1) B2
    | exact below_step (bl2 B1) B2
theorem seal_kind (k : Int) (hk : k < 1 ∨ 8 < k) (s : ByteArray) (w : World) : Calls Try.prog 10 #[.int .i64 k, .string s] w fun e w' => e = .returned (.tuple #[.string ⟨#[]⟩, .int .i64 1]) ∧ w = w' := by
  have KI := Lib.hid (isKind_any k)
  have ki : (decide (1 ≤ k) && decide (k ≤ 8)) = false := by
    rcases hk with h | h
    · rw [decide_eq_false (by omega), Bool.false_and]
    · rw [decide_eq_false (p := k ≤ 8) (by omega), Bool.and_false]
  rw [ki] at KI
  clear hk ki
  go_enter Try.func10, Try.ntmps10
  go_wp2_with fail
  refine (KI.out _).mono ?_
  rintro e W ⟨rfl, rfl⟩
  go_wp2_with fail
  go_ret2
  exact ⟨rfl, rfl⟩
end Go.Proofs.Ythbgbgobfoecoaa
namespace Go.Proofs.Ythbgbgobfoecoaa
open Go.RowKit
set_option linter.unusedVariables false
set_option linter.unusedSimpArgs false
set_option maxHeartbeats 2000000
set_option maxRecDepth 100000
theorem Form.start {s : List UInt8} {k : Nat} {l t : List UInt8} (h : Form s k l t) : ∃ r, s = fstart ++ by8 k :: r := ⟨enc l.length ++ l ++ t, by rw [h.eq]; unfold fbody fhead fstart; simp⟩
theorem opn_start {s : List UInt8} (h : ∀ b r, s = fstart ++ b :: r → ¬ (1 ≤ b.toNat ∧ b.toNat ≤ 8)) : opn s = (0, [], 2) :=
  opn_none fun k l t hf => by
    obtain ⟨r, e⟩ := hf.start
    have lo := hf.lo; have hi := hf.hi
    exact h _ _ e (by rw [by8_toNat (by omega)]; exact ⟨lo, hi⟩)
theorem open_no (s : ByteArray) (k : Int) (K : ∀ w : World, Calls Try.prog 19 #[.string s] w fun e w' => e = .returned (.tuple #[.int .i64 k, .bool false]) ∧ w = w') (w : World) :
    Calls Try.prog 12 #[.string s] w fun e w' => e = .returned (.tuple #[.int .i64 0, .string ⟨#[]⟩, .int .i64 2]) ∧ w = w' := by
  have K := Lib.hid K
  go_enter Try.func12, Try.ntmps12
  go_wp2_with fail
  refine (K.out _).mono ?_
  rintro e W ⟨rfl, rfl⟩
  go_wp2_with fail
  go_ret3
  exact ⟨rfl, rfl⟩
theorem open_good (s : ByteArray) (hs : s.size ≤ 100000) (h6 : 6 ≤ s.size) (hm : s.extract 0 4 = smph) (h4 : s[4].toNat = 1) (h1 : 1 ≤ s[5].toNat) (h8 : s[5].toNat ≤ 8)
    (K : ∀ w : World, Calls Try.prog 19 #[.string s] w fun e w' => e = .returned (.tuple #[.int .i64 (s[5].toNat : Int), .bool true]) ∧ w = w') (w : World) :
    Calls Try.prog 12 #[.string s] w fun e w' => e = .returned (.tuple #[.int .i64 ((opn (L s)).1 : Int), .string (bs (opn (L s)).2.1), .int .i64 ((opn (L s)).2.2 : Int)]) ∧ Below w.heap.size w w' := by
  have K := Lib.hid K
  have KR : Hid (∀ (W : World) (g : Nat) (h : Box W g #[.string s, .int .i64 6, .bool false]), _) := fun W g h => rText_any h 65536 (by decide) (by omega)
  obtain ⟨tx, htx⟩ : ∃ x, x = textB (restB s 6 false) (readT s 6 false 65536) := ⟨_, rfl⟩
  obtain ⟨ro, hro⟩ : ∃ x, x = readT s 6 false 65536 := ⟨_, rfl⟩
  rw [← htx, ← hro] at KR
  have HM := Lib.hid hm
  have M := Box.new w #[.string s, .int .i64 6, .bool false] 49
  obtain ⟨g, hg⟩ : ∃ g, w.heap.size = g := ⟨_, rfl⟩
  rw [hg] at M
  have B0 : Below w.heap.size w (w.alloc (.cells #[.string s, .int .i64 6, .bool false] 49)) := below_al (Below.refl _ _) _
  have GG := Lib.hid (show w.heap.size ≤ g by omega)
  have HB := Lib.hid B0
  clear hm B0
  go_enter Try.func12, Try.ntmps12
  go_wp2_with fail
  refine (K.out _).mono ?_
  rintro e W0 ⟨rfl, rfl⟩
  go_wp2_with fail
  clear hg
  generalize w.alloc (.cells #[.string s, .int .i64 6, .bool false] 49) = W at *
  refine (KR.out _ _ M).mono ?_
  rintro e Z ⟨rfl, T⟩
  have BZ := Lib.hid (HB.out.trans (T.below GG.out HB.out.size))
  cases hc : ro with
  | none =>
    have A := Lib.hid (ans_none (hro.symm.trans hc))
    rw [hc] at T
    obtain ⟨c0, c1, c2⟩ := T.box.three
    clear htx hro hc M T
    go_wp2_with fail
    go_ret3
    rw [A.out]
    exact ⟨rfl, BZ.out⟩
  | some x =>
    obtain ⟨n, c⟩ := x
    obtain ⟨p, hp⟩ : ∃ p, p = 6 + (n + c) := ⟨_, rfl⟩
    have hi : (6 : Int) + ((c + n : Nat) : Int) = (p : Int) := by omega
    have pb : p ≤ s.size := by rw [hp]; exact (readT_num h6 (hro.symm.trans hc)).2.2
    rw [hc] at T
    have X : Box Z g #[.string s, .int .i64 ((6 : Int) + ((c + n : Nat) : Int)), .bool false] := T.box
    rw [hi] at X
    obtain ⟨c0, c1, c2⟩ := X.three
    clear hi T M
    by_cases hl : s.size = p + 4
    · have A := Lib.hid (ans_sum h6 HM.out h4 h1 h8 (hro.symm.trans hc) (by omega))
      have hl' : (s.size : Int) = (p : Int) + 4 := by omega
      rw [← hp] at A
      have ex : textB (restB s 6 false) (some (n, c)) = tx := by rw [htx, ← hro, hc]
      rw [ex] at A
      have KS := Lib.hid (fun W => fSum_any (s.extract 0 p) (by rw [ByteArray.size_extract]; omega) W)
      obtain ⟨u, hu⟩ : ∃ u, u = bs (fsum (L (s.extract 0 p))) := ⟨_, rfl⟩
      rw [← hu] at A KS
      have wd : IntKind.i64.wrap ((s.size : Int) - (p : Int)) = 4 := by rw [IntKind.wrap_i64]; omega
      have p0 : (0 : Int) ≤ p := by omega
      have ps : (p : Int) ≤ (s.size : Int) := by omega
      clear htx hro hc ex hp hu hl hl' X
      go_wp2_with fail
      go_region_held3 (fun w' => w'.cell? ⟨g, 1, none⟩ = some (.int .i64 (p : Int)))
        (first | with_reducible exact c1 | with_reducible exact keep_drew c1 | with_reducible exact keep_cell (by assumption) (keep_drew c1) | with_reducible exact keep_drew (keep_cell (by assumption) c1) | with_reducible exact keep_cell (by assumption) c1)
        (first | (go_at_call 17; (with_reducible refine (KS.out _).mono ?_); rintro e w2 ⟨rfl, B2⟩))
      all_goals go_wp2_with fail
      · rename_i h
        have ne : ¬ u = s.extract p s.size := by
          intro e
          rw [← e] at h
          simp at h
        go_ret3
        rw [A.out, if_neg ne]
        exact ⟨rfl, below_step BZ.out.drew B2⟩
      · rename_i h
        have e : u = s.extract p s.size := by
          have h : ((s.extract p s.size).toList == u.toList) = true := by simpa using h
          have h := eq_of_beq h
          rw [ByteArray.toList_eq, ByteArray.toList_eq] at h
          exact L_inj h.symm
        go_ret3
        rw [A.out, if_pos e]
        refine ⟨?_, below_step BZ.out.drew B2⟩
        show _ = Ending.returned (.tuple #[.int .i64 (s[5].toNat : Int), .string (bs (L tx)), .int .i64 0])
        rw [bs_L]
        rfl
    · have A := Lib.hid (ans_len (hro.symm.trans hc) (by omega))
      obtain ⟨d, hd⟩ : ∃ d : Int, d = (s.size : Int) - (p : Int) := ⟨_, rfl⟩
      have wd : IntKind.i64.wrap ((s.size : Int) - (p : Int)) = d := by rw [IntKind.wrap_i64]; omega
      have hb : ¬ d = 4 := by omega
      clear htx hro hc hp hl X hd
      go_wp2_with fail
      go_ret3
      rw [A.out]
      exact ⟨rfl, BZ.out⟩
/-- What the program's Open answers. -/
theorem open_any (s : ByteArray) (hs : s.size ≤ 100000) (w : World) : Calls Try.prog 12 #[.string s] w fun e w' => e = .returned (.tuple #[.int .i64 ((opn (L s)).1 : Int), .string (bs (opn (L s)).2.1), .int .i64 ((opn (L s)).2.2 : Int)]) ∧ Below w.heap.size w w' := by
  have no : ∀ (k : Int), (∀ w : World, Calls Try.prog 19 #[.string s] w fun e w' => e = .returned (.tuple #[.int .i64 k, .bool false]) ∧ w = w') → opn (L s) = (0, [], 2) →
      Calls Try.prog 12 #[.string s] w fun e w' => e = .returned (.tuple #[.int .i64 ((opn (L s)).1 : Int), .string (bs (opn (L s)).2.1), .int .i64 ((opn (L s)).2.2 : Int)]) ∧ Below w.heap.size w w' := by
    intro k K h
    refine (open_no s k K w).mono ?_
    rintro e w' ⟨rfl, rfl⟩
    rw [h]
    exact ⟨rfl, Below.refl _ _⟩
  by_cases h : ∃ r, L s = fstart ++ r
  · obtain ⟨r, h⟩ := h
    have es : s = bs (fstart ++ r) := L_inj h
    cases r with
    | nil =>
      refine no 0 (by rw [es]; exact kind_nil) (opn_start fun b r e => ?_)
      rw [h] at e
      exact absurd (congrArg List.length e) (by simp)
    | cons b r =>
      by_cases hb : 1 ≤ b.toNat ∧ b.toNat ≤ 8
      · obtain ⟨b1, b8⟩ := hb
        have sz : s.size = 6 + r.length := by rw [← L_len, h, List.length_append]; show 5 + (r.length + 1) = _; omega
        have h6 : 6 ≤ s.size := by omega
        have T : (L s).take 6 = fhead b.toNat := by
          rw [h]
          unfold fhead fstart
          have : by8 b.toNat = b := UInt8.toNat_inj.1 (by8_toNat b.toNat_lt)
          rw [this]
          rfl
        obtain ⟨hm, h4, h5⟩ := (head_parts h6 b.toNat_lt).1 T
        refine open_good s hs h6 hm h4 (by rw [h5]; exact b1) (by rw [h5]; exact b8) (fun W => ?_) w
        rw [h5]
        have K := kind_at b r W
        rw [← es, decide_eq_true (show 1 ≤ (b.toNat : Int) by omega), decide_eq_true (show (b.toNat : Int) ≤ 8 by omega)] at K
        exact K
      · refine no (b.toNat : Int) (fun W => ?_) (opn_start fun b' r' e => ?_)
        · have K := kind_at b r W
          have q : (decide (1 ≤ (b.toNat : Int)) && decide ((b.toNat : Int) ≤ 8)) = false := by
            cases q : (decide (1 ≤ (b.toNat : Int)) && decide ((b.toNat : Int) ≤ 8)) with
            | false => rfl
            | true =>
              simp only [Bool.and_eq_true, decide_eq_true_eq] at q
              exact absurd (by omega) hb
          rw [← es, q] at K
          exact K
        · rw [h] at e
          have e := List.append_cancel_left e
          simp only [List.cons.injEq] at e
          rw [← e.1]
          exact hb
  · have h' : ∀ r, L s ≠ fstart ++ r := fun r e => h ⟨r, e⟩
    exact no 0 (kind_no s h') (opn_start fun b r e => absurd e (h' _))
end Go.Proofs.Ythbgbgobfoecoaa
namespace Go.Proofs.Ythbgbgobfoecoaa
open Go.RowKit
set_option linter.unusedVariables false
set_option linter.unusedSimpArgs false
set_option maxHeartbeats 2000000
set_option maxRecDepth 100000
theorem crc30 : Crc.crcMore 0#32 [83, 77, 80, 72, 1, 3, 0] = 2720526568#32 := by decide +kernel
theorem body30 : fbody 3 [] = [83, 77, 80, 72, 1, 3, 0] := by
  unfold fbody
  rw [show ([] : List UInt8).length = 0 from rfl, enc_low (by decide)]
  rfl
theorem opn_awake : opn [83, 77, 80, 72, 1, 3, 0, 97, 98, 99, 100] = (0, [], 11) := by
  refine opn_sum (k := 3) (l := []) (t := [97, 98, 99, 100]) ⟨by decide, by decide, by decide, rfl, by rw [body30]; rfl⟩ ?_
  unfold fsum
  rw [body30, crc30]
  decide
theorem awake9_any (w : World) : Calls Try.prog 9 #[] w fun e w' => e = .returned (.bool true) ∧ Below w.heap.size w w' := by
  have K0 := Lib.hid (fun W => seal_ok 3 (by decide) (by decide) ⟨#[97, 98, 99]⟩ (by decide) W)
  have OS : opn (L (bs (fseal 3 [97, 98, 99]))) = (3, [97, 98, 99], 0) := opn_seal (by decide) (by decide) (by decide)
  have KO := Lib.hid (fun W => open_any (bs (fseal 3 [97, 98, 99])) (by rw [bs_size, fseal_len, show ([97, 98, 99] : List UInt8).length = 3 from rfl, enc_low (by decide)]; decide) W)
  rw [OS] at KO
  have SZ : (bs (fseal 3 [97, 98, 99])).size = 14 := by rw [bs_size, fseal_len, show ([97, 98, 99] : List UInt8).length = 3 from rfl, enc_low (by decide)]; rfl
  have K9 := Lib.hid (fun W => seal_kind 9 (by decide) ⟨#[]⟩ W)
  have KB := Lib.hid (fun W => open_any ⟨#[83, 77, 80, 72, 1, 3, 0, 97, 98, 99, 100]⟩ (by decide) W)
  rw [show L ⟨#[83, 77, 80, 72, 1, 3, 0, 97, 98, 99, 100]⟩ = [83, 77, 80, 72, 1, 3, 0, 97, 98, 99, 100] from rfl, opn_awake] at KB
  rw [show L ⟨#[97, 98, 99]⟩ = [97, 98, 99] from rfl] at K0
  have QE : ((bs [97, 98, 99]).toList == [97, 98, 99]) = true := by rw [ByteArray.toList_eq]; rfl
  generalize bs (fseal 3 [97, 98, 99]) = t at *
  have ts : (t.size : Int) = 14 := by omega
  clear OS SZ
  go_enter Try.func9, Try.ntmps9
  go_wp2_with fail
  refine (K0.out _).mono ?_
  rintro e W1 ⟨rfl, B1⟩
  go_wp2_with fail
  refine (KO.out _).mono ?_
  rintro e W2 ⟨rfl, B2⟩
  go_wp2_with fail
  refine (K9.out _).mono ?_
  rintro e W3 ⟨rfl, rfl⟩
  go_wp2_with fail
  refine (KB.out _).mono ?_
  rintro e W4 ⟨rfl, B4⟩
  go_wp2_with fail
  go_ret
  exact ⟨rfl, below_step (below_step B1 B2) B4⟩
end Go.Proofs.Ythbgbgobfoecoaa
namespace Go.Proofs.Ythbgbgobfoecoaa
open Go.RowKit Go.ChangeShapes Go.WideShapes Go.ChangeAt Go.Joins
set_option linter.unusedSimpArgs false
set_option linter.unusedVariables false
theorem own : ownKnob Try.prog.godebug = none := by kernel_rfl
theorem laidOut : laidOutB Try.prog = true := by kernel_rfl
theorem readable_u8 : Try.prog.readableRec 5 = true := by kernel_rfl
theorem typed_u8 : 5 < Try.prog.types.size := of_decide_eq_true (by kernel_rfl)
theorem readable_u16 : Try.prog.readableRec 34 = true := by kernel_rfl
theorem typed_u16 : 34 < Try.prog.types.size := of_decide_eq_true (by kernel_rfl)
theorem readable_u32 : Try.prog.readableRec 35 = true := by kernel_rfl
theorem typed_u32 : 35 < Try.prog.types.size := of_decide_eq_true (by kernel_rfl)
theorem readable_str : Try.prog.readableRec 9 = true := by kernel_rfl
theorem typed_str : 9 < Try.prog.types.size := of_decide_eq_true (by kernel_rfl)
theorem readable_int : Try.prog.readableRec 3 = true := by kernel_rfl
theorem typed_int : 3 < Try.prog.types.size := of_decide_eq_true (by kernel_rfl)
section
variable {H : Type} {enc : TypeId × Value → H} {W : World} {base : Nat} {v : Value} {d : DataW H} {p : List MemPlace}
set_option maxRecDepth 100000 in
theorem open_i64 (hv : Value.okWide Try.prog W .any base 3 v) (h : DataW.Trod enc Try.prog W 0 (fun _ => true) true 3 v d p) : ∃ x : Int, v = .int .i64 x ∧ -9223372036854775808 ≤ x ∧ x ≤ 9223372036854775807 := by
  obtain ⟨x, rfl, rfl, rfl, wx⟩ := open_int Try.underlying3 hv h
  exact ⟨x, rfl, bounds_i64 wx⟩
set_option maxRecDepth 100000 in
theorem open_u32 (hv : Value.okWide Try.prog W .any base 35 v) (h : DataW.Trod enc Try.prog W 0 (fun _ => true) true 35 v d p) : ∃ x, v = .int .u32 (Crc.J x) := by
  obtain ⟨x, rfl, rfl, rfl, wx⟩ := open_int Try.underlying35 hv h
  have hb := bounds_u32 wx
  obtain ⟨y, hy⟩ := Crc.J_of hb.1 (by omega)
  exact ⟨y, by rw [hy]⟩
set_option maxRecDepth 100000 in
theorem open_u8 (hv : Value.okWide Try.prog W .any base 5 v) (h : DataW.Trod enc Try.prog W 0 (fun _ => true) true 5 v d p) : ∃ n : Nat, v = .int .u8 (n : Int) ∧ n < 256 := by
  obtain ⟨x, rfl, rfl, rfl, wx⟩ := open_int Try.underlying5 hv h
  obtain ⟨a, b⟩ := bounds_u8 wx
  exact ⟨x.toNat, by rw [Int.toNat_of_nonneg a], by omega⟩
set_option maxRecDepth 100000 in
theorem open_u16 (hv : Value.okWide Try.prog W .any base 34 v) (h : DataW.Trod enc Try.prog W 0 (fun _ => true) true 34 v d p) : ∃ n : Nat, v = .int .u16 (n : Int) ∧ n < 65536 := by
  obtain ⟨x, rfl, rfl, rfl, wx⟩ := open_int Try.underlying34 hv h
  obtain ⟨a, b⟩ := bounds_u16 wx
  exact ⟨x.toNat, by rw [Int.toNat_of_nonneg a], by omega⟩
end
section
variable {H : Type} {enc : TypeId × Value → H} {P : Program}
/-- The row's last step: the arguments read as they did. -/
theorem post_args {f : Func} {s : ChangeSpec} {apart : Bool} {W W' : World} {args : Array Value} {v : Value} {ds gs : List (DataW H)} {before : List MemPlace}
    (hW : DataW.Whole enc P f.params.toList s.vars apart W args.toList ds gs before)
    (hres : ∀ (b : Nat) (sp : Nat → Bool) (hd : Bool), DataW.TrodAll enc P W' b sp hd f.resultTypes.toList (v.resultList f.resultTypes.size) (s.fn H (ds ++ gs)).results [])
    (hargs : DataW.TrodAll enc P W' 0 (fun b => decide (b < W.heap.size)) true f.params.toList args.toList (s.fn H (ds ++ gs)).args before)
    (hvars : ∀ sp : Nat → Bool, DataW.TrodVars enc P W' sp s.vars (s.fn H (ds ++ gs)).vars [])
    (hb : Below W.heap.size W W') : s.post enc P f apart true false false W args v W' :=
  ⟨ds, gs, before, [], before, [], hW, hres _ _ _, hargs, hvars _, hb.frame _, fun h => by cases h⟩
end
end Go.Proofs.Ythbgbgobfoecoaa
