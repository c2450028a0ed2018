/- The document's Seal. The document's Open. The document's Open, where the bytes begin as a frame's do. Table of the program. byTable, More, Sum of the program; the fixed answers. Bytes that lie in memory, and their text. The document's answers: the walk of ReadWide. The document's answers: the walk of Wide. The document's answers: the walk of Nat. -/
import Derived.Test.YthbgbgobfoecoaaJ02
import Derived.Deep.RegionWith
import Derived.OwnWalk
import Derived.Deep.RegionHeld3
import Derived.Test.YthbgbgobfoecoaaJ01
import Derived.Deep.WholeRow
import Derived.Laws.IdiomStrings
namespace Go.Proofs.Ythbgbgobfoecoaa
open Go.RowKit
set_option linter.unusedVariables false
set_option linter.unusedSimpArgs false
set_option maxHeartbeats 2000000
set_option maxRecDepth 100000
/-- Two bytes that lie somewhere, as a text. -/
theorem conv_two (W : World) (g : Nat) (a b : UInt8) (n : Nat) (h0 : W.cell? ⟨g, 0, none⟩ = some (.int .u8 (a.toNat : Int))) (h1 : W.cell? ⟨g, 1, none⟩ = some (.int .u8 (b.toNat : Int))) :
    (convert 36 9 (.slice (some ⟨g, 0, none⟩) 2 n)).run Try.prog W = .ok (.string (bs [a, b])) W := by
  exact run_convert_bytes_back _ 36 9 5 ⟨g, 0, none⟩ n [a, b] Try.underlying36 Try.underlying5 Try.underlying9 (fun j hj => by
    have hj0 : j < 2 := by simpa using hj
    have e : (⟨g, 0, none⟩ : Addr).add j = ⟨g, j, none⟩ := by unfold Addr.add; split <;> simp_all
    rw [e]
    rcases j with _ | _ | j
    · exact h0
    · exact h1
    · exfalso; omega)
theorem new_two (W : World) (a b : Value) (t : TypeId) : (W.alloc (.cells #[a, b] t)).cell? ⟨W.heap.size, 0, none⟩ = some a ∧ (W.alloc (.cells #[a, b] t)).cell? ⟨W.heap.size, 1, none⟩ = some b := by
  constructor
  · show (match (W.alloc (.cells #[a, b] t)).heap[W.heap.size]? with | some (.cells c _ _) => if (none : Option Nat).isSome then none else c[0]? | _ => none) = _
    rw [heap_alloc_new]; rfl
  · show (match (W.alloc (.cells #[a, b] t)).heap[W.heap.size]? with | some (.cells c _ _) => if (none : Option Nat).isSome then none else c[1]? | _ => none) = _
    rw [heap_alloc_new]; rfl
theorem conv_head (W : World) (b : UInt8) : (convert 36 9 (.slice (some ⟨W.heap.size, 0, none⟩) 2 2)).run Try.prog (W.alloc (.cells #[.int .u8 1, .int .u8 (b.toNat : Int)] 5)) = .ok (.string (bs [1, b])) (W.alloc (.cells #[.int .u8 1, .int .u8 (b.toNat : Int)] 5)) :=
  conv_two _ _ 1 b 2 (new_two W (.int .u8 1) _ _).1 (new_two W (.int .u8 1) _ _).2
theorem conv_headd (W : World) (b : UInt8) : (convert 36 9 (.slice (some ⟨W.heap.size, 0, none⟩) 2 2)).run Try.prog (W.alloc (.cells #[.int .u8 1, .int .u8 (b.toNat : Int)] 5)).drew = .ok (.string (bs [1, b])) (W.alloc (.cells #[.int .u8 1, .int .u8 (b.toNat : Int)] 5)).drew :=
  conv_two _ _ 1 b 2 (new_two W (.int .u8 1) _ _).1 (new_two W (.int .u8 1) _ _).2
theorem conv_kept {W w1 : World} {b : UInt8} (B : Below (W.alloc (.cells #[.int .u8 1, .int .u8 (b.toNat : Int)] 5)).heap.size (W.alloc (.cells #[.int .u8 1, .int .u8 (b.toNat : Int)] 5)).drew w1) :
    (convert 36 9 (.slice (some ⟨W.heap.size, 0, none⟩) 2 2)).run Try.prog w1 = .ok (.string (bs [1, b])) w1 :=
  conv_two _ _ 1 b 2 (keep_cell (W := (W.alloc (.cells #[.int .u8 1, .int .u8 (b.toNat : Int)] 5)).drew) B (new_two W (.int .u8 1) _ _).1) (keep_cell (W := (W.alloc (.cells #[.int .u8 1, .int .u8 (b.toNat : Int)] 5)).drew) B (new_two W (.int .u8 1) _ _).2)
theorem bl1 {w w1 : World} {o : Obj} (B : Below (w.alloc o).drew.heap.size (w.alloc o).drew w1) : Below w.heap.size w w1 :=
  below_step (((Below.refl _ _).alloc (Nat.le_refl _) o).drew) B
theorem bl2 {w w1 : World} {o : Obj} (B : Below w.drew.heap.size w.drew w1) : Below w.heap.size w (w1.alloc o) :=
  (below_step (Below.refl _ w).drew B).alloc (below_step (Below.refl _ w).drew B).size o
theorem refSeal_ok (k : Nat) (h1 : 1 ≤ k) (h8 : k ≤ 8) (s : ByteArray) (hs : s.size ≤ 65536) (w : World) : Calls Try.prog 11 #[.int .i64 (k : Int), .string s] w fun e w' => e = .returned (.tuple #[.string (bs (fseal k (L s))), .int .i64 0]) ∧ Below w.heap.size w w' := by
  have KN := Lib.hid (fun W => refNumber_any s.size (by omega) W)
  have H10 := Lib.hid (enc_ten (show s.size < 18446744073709551616 by omega))
  obtain ⟨b, eb, eb2⟩ := byte_low (show k < 256 by omega)
  have k1 : ¬ (k : Int) < 1 := by omega
  have k8 : ¬ (8 : Int) < k := by omega
  have l6 : ¬ (65536 : Int) < s.size := by omega
  have WU : IntKind.u64.wrap (s.size : Int) = (s.size : Int) := by unfold IntKind.wrap; simp [IntKind.signed, IntKind.bits]; omega
  have EB := Lib.hid eb2
  have WB : IntKind.u8.wrap (k : Int) = (b.toNat : Int) := by rw [← eb]; unfold IntKind.wrap; simp [IntKind.signed, IntKind.bits]; omega
  clear eb eb2
  obtain ⟨en, hen⟩ : ∃ x, x = bs (enc s.size) := ⟨_, rfl⟩
  rw [← hen] at KN
  have sen : en.size ≤ 10 := by rw [hen, bs_size]; exact H10.out
  obtain ⟨x1, hx1⟩ : ∃ x, x = (⟨#[83, 77, 80, 72]⟩ : ByteArray) ++ bs [1, b] := ⟨_, rfl⟩
  have sx1 : x1.size = 6 := by rw [hx1, ByteArray.size_append]; rfl
  obtain ⟨x2, hx2⟩ : ∃ x, x = x1 ++ en := ⟨_, rfl⟩
  have sx2 : x2.size ≤ 16 := by rw [hx2, ByteArray.size_append]; omega
  obtain ⟨x3, hx3⟩ : ∃ x, x = x2 ++ s := ⟨_, rfl⟩
  have sx3 : x3.size ≤ 65552 := by rw [hx3, ByteArray.size_append]; omega
  have ex3 : x3 = bs (fbody k (L s)) := by
    apply L_inj
    rw [hx3, hx2, hx1, hen, L_app, L_app, L_app, L_bs, L_bs, L_bs, EB.out]
    unfold fbody fhead
    rw [L_len, List.append_assoc]
    rfl
  have a1 : ∀ W : World, (Op.stringOp .add (⟨#[83, 77, 80, 72]⟩ : ByteArray) (bs [1, b])).run Try.prog W = .ok (.string x1) W := fun W => by rw [hx1]; exact run_string_add_sum W _ _ (by show (4 : Nat) + 2 ≤ _; omega)
  have a2 : ∀ W : World, (Op.stringOp .add x1 en).run Try.prog W = .ok (.string x2) W := fun W => by rw [hx2]; exact run_string_add_sum W _ _ (by omega)
  have a3 : ∀ W : World, (Op.stringOp .add x2 s).run Try.prog W = .ok (.string x3) W := fun W => by rw [hx3]; exact run_string_add_sum W _ _ (by omega)
  have KS := Lib.hid (fun W => refFSum_any x3 (by omega) W)
  obtain ⟨y, hy⟩ : ∃ x, x = bs (fsum (L x3)) := ⟨_, rfl⟩
  rw [← hy] at KS
  have sy : y.size = 4 := by rw [hy]; rfl
  obtain ⟨x4, hx4⟩ : ∃ x, x = x3 ++ y := ⟨_, rfl⟩
  have EX : Hid (x4 = bs (fseal k (L s))) := by
    apply L_inj
    rw [hx4, hy, L_app, ex3]
    rfl
  have a4 : ∀ W : World, (Op.stringOp .add x3 y).run Try.prog W = .ok (.string x4) W := fun W => by rw [hx4]; exact run_string_add_sum W _ _ (by omega)
  clear hy hx4 sy
  have SX := Lib.hid sx3
  clear hx1 hx2 hx3 hen sen sx1 sx2 ex3 sx3
  go_enter Try.func11, Try.ntmps11
  go_wp2_with fail
  have hcv := fun W : World => conv_head W b
  have hcd := fun W : World => conv_headd W b
  go_region_with (first | (go_at_call 14; refine (KN.out _).mono ?_; rintro e w1 ⟨rfl, B1⟩; first | have hcw := conv_kept B1 | skip))
  all_goals go_wp2_with fail
  all_goals refine (KS.out _).mono ?_
  all_goals (rintro e w2 ⟨rfl, B2⟩; go_wp2_with fail; go_ret2)
  all_goals refine ⟨by rw [← EX.out]; rfl, ?_⟩
  all_goals first
    | exact below_step (bl1 B1) B2
    | exact below_step (bl2 B1) B2
theorem refSeal_kind (k : Int) (hk : k < 1 ∨ 8 < k) (s : ByteArray) (w : World) : Calls Try.prog 11 #[.int .i64 k, .string s] w fun e w' => e = .returned (.tuple #[.string ⟨#[]⟩, .int .i64 1]) ∧ w = w' := by
  go_enter Try.func11, Try.ntmps11
  rcases Int.lt_or_le k 1 with h1 | h1
  · go_wp2_with fail
    go_ret2
    exact ⟨rfl, rfl⟩
  · have h8 : 8 < k := by omega
    have h1' : ¬ k < 1 := by omega
    go_wp2_with fail
    go_ret2
    exact ⟨rfl, rfl⟩
end Go.Proofs.Ythbgbgobfoecoaa
namespace Go.Proofs.Ythbgbgobfoecoaa
open Go.RowKit
set_option linter.unusedVariables false
set_option linter.unusedSimpArgs false
set_option maxHeartbeats 2000000
set_option maxRecDepth 100000
/-- SMPH as a text. -/
def smph : ByteArray := ⟨#[83, 77, 80, 72]⟩
theorem head_parts {s : ByteArray} {k : Nat} (h6 : 6 ≤ s.size) (hk : k < 256) : (L s).take 6 = fhead k ↔ s.extract 0 4 = smph ∧ s[4].toNat = 1 ∧ s[5].toNat = k := by
  obtain ⟨l, rfl⟩ : ∃ l, s = bs l := ⟨L s, (bs_L s).symm⟩
  rw [bs_size] at h6
  match l, h6 with
  | a :: b :: c :: d :: e :: f :: r, _ =>
    have e1 : (bs (a :: b :: c :: d :: e :: f :: r)).extract 0 4 = bs [a, b, c, d] := by
      apply L_inj; rw [L_take]; rfl
    have e4 : (bs (a :: b :: c :: d :: e :: f :: r))[4] = e := rfl
    have e5 : (bs (a :: b :: c :: d :: e :: f :: r))[5] = f := rfl
    rw [e1, e4, e5]
    show [a, b, c, d, e, f] = fhead k ↔ bs [a, b, c, d] = bs [83, 77, 80, 72] ∧ _
    unfold fhead
    constructor
    · intro h
      simp only [List.cons.injEq, and_true] at h
      obtain ⟨rfl, rfl, rfl, rfl, rfl, rfl⟩ := h
      exact ⟨rfl, rfl, by8_toNat hk⟩
    · rintro ⟨h1, h2, h3⟩
      have h1 := congrArg L h1
      simp only [L_bs, List.cons.injEq, and_true] at h1
      obtain ⟨rfl, rfl, rfl, rfl⟩ := h1
      have he : e = 1 := UInt8.toNat_inj.1 h2
      have hf : f = by8 k := UInt8.toNat_inj.1 (by rw [by8_toNat hk]; exact h3)
      rw [he, hf]
/-- What doesn't begin so is no frame. -/
theorem opn_bad {s : ByteArray} (h : ¬ (∃ h6 : 6 ≤ s.size, s.extract 0 4 = smph ∧ s[4].toNat = 1 ∧ 1 ≤ s[5].toNat ∧ s[5].toNat ≤ 8)) : opn (L s) = (0, [], 2) := by
  apply opn_none
  intro k l t hf
  apply h
  have hl := hf.len
  have h6 : 6 ≤ s.size := by rw [L_len] at hl; omega
  have hi := hf.hi
  obtain ⟨a, b, c⟩ := (head_parts h6 (show k < 256 by omega)).1 hf.head
  exact ⟨h6, a, b, by rw [c]; exact hf.lo, by rw [c]; exact hf.hi⟩
theorem refOpen_bad (s : ByteArray) (hs : s.size ≤ 100000) (h : ¬ (∃ h6 : 6 ≤ s.size, s.extract 0 4 = smph ∧ s[4].toNat = 1 ∧ 1 ≤ s[5].toNat ∧ s[5].toNat ≤ 8)) (w : World) : Calls Try.prog 13 #[.string s] w fun e w' => e = .returned (.tuple #[.int .i64 0, .string ⟨#[]⟩, .int .i64 2]) ∧ w = w' := by
  go_enter Try.func13, Try.ntmps13
  by_cases h6 : s.size < 6
  · have l6 : (s.size : Int) < 6 := by omega
    clear h
    go_wp2_with fail
    go_ret3
    exact ⟨rfl, rfl⟩
  · have l6 : ¬ (s.size : Int) < 6 := by omega
    have i4 : (4 : Int) < s.size := by omega
    have i5 : (5 : Int) < s.size := by omega
    have n4 : (4 : Int) ≤ s.size := by omega
    have q4 : 4 < s.size := by omega
    have q5 : 5 < s.size := by omega
    by_cases hm : s.extract 0 4 = smph
    · have hq : ((s.extract 0 4).toList == [83, 77, 80, 72]) = true := by rw [ByteArray.toList_eq, hm]; rfl
      have HM := Lib.hid hm
      clear hm
      by_cases h4 : (s[4].toNat : Int) = 1
      · by_cases h5 : (s[5].toNat : Int) < 1
        · clear h
          go_wp2_with fail
          go_ret3
          exact ⟨rfl, rfl⟩
        · have h8 : (8 : Int) < s[5].toNat := by
            have := fun p : s[5].toNat ≤ 8 => h ⟨by omega, HM.out, by omega, by omega, p⟩
            have := Nat.lt_of_not_le this
            omega
          clear h
          go_wp2_with fail
          go_ret3
          exact ⟨rfl, rfl⟩
      · clear h
        go_wp2_with fail
        go_ret3
        exact ⟨rfl, rfl⟩
    · have hq : ((s.extract 0 4).toList == [83, 77, 80, 72]) = false := by
        rw [ByteArray.toList_eq]
        cases e : ((s.extract 0 4).data.toList == [83, 77, 80, 72]) with
        | false => rfl
        | true => exact absurd (L_inj (b := smph) (eq_of_beq e)) hm
      clear h hm
      go_wp2_with fail
      go_ret3
      exact ⟨rfl, rfl⟩
end Go.Proofs.Ythbgbgobfoecoaa
namespace Go.Proofs.Ythbgbgobfoecoaa
open Go.RowKit
set_option linter.unusedVariables false
set_option linter.unusedSimpArgs false
set_option maxHeartbeats 2000000
set_option maxRecDepth 100000
theorem readT_form {s : ByteArray} {k : Nat} {l t : List UInt8} (h : Form (L s) k l t) : readT s 6 false 65536 = some (l.length, (enc l.length).length) := by
  have hl := h.len
  rw [L_len] at hl
  have h6 : 6 ≤ s.size := by omega
  have e : L (restB s 6 false) = (L s).drop 6 := restB_L (i := 6) h6
  have sz : (restB s 6 false).size = s.size - 6 := by rw [← L_len, e, List.length_drop, L_len]
  have N : numOf (L (restB s 6 false)) = (l.length, (enc l.length).length) := by rw [e]; exact numOf_some h.num
  have ep := enc_pos l.length
  have hm := h.most
  rw [readT_some (by rw [N, sz]; exact ⟨okR_at (i := 6) h6, by show (enc l.length).length ≠ 0; omega, by decide, by show ((l.length : Nat) : Int) ≤ 65536; omega, by show l.length + (enc l.length).length ≤ _; omega⟩), N]
theorem readT_num {s : ByteArray} {n c : Nat} (h6 : 6 ≤ s.size) (h : readT s 6 false 65536 = some (n, c)) : numAt ((L s).drop 6) = some (n, c) ∧ n ≤ 65536 ∧ 6 + (n + c) ≤ s.size := by
  have e : L (restB s 6 false) = (L s).drop 6 := restB_L (i := 6) h6
  have sz : (restB s 6 false).size = s.size - 6 := by rw [← L_len, e, List.length_drop, L_len]
  by_cases C : okR s.size 6 false = true ∧ (numOf (L (restB s 6 false))).2 ≠ 0 ∧ (0 : Int) ≤ 65536 ∧ ((numOf (L (restB s 6 false))).1 : Int) ≤ 65536 ∧ (numOf (L (restB s 6 false))).1 + (numOf (L (restB s 6 false))).2 ≤ (restB s 6 false).size
  · rw [readT_some C] at h
    have h := Option.some.inj h
    obtain ⟨_, c2, _, c4, c5⟩ := C
    rw [h] at c2 c4 c5
    rw [sz] at c5
    rw [e] at h
    refine ⟨?_, by have : ((n : Nat) : Int) ≤ 65536 := c4; omega, by have : n + c ≤ s.size - 6 := c5; omega⟩
    cases q : numAt ((L s).drop 6) with
    | none => rw [numOf_none q] at h; have : c = 0 := (congrArg Prod.snd h).symm; exact absurd this c2
    | some x => obtain ⟨a, b⟩ := x; rw [numOf_some q] at h; rw [h]
  · rw [readT_none C] at h; exact absurd h (by simp)
theorem ans_none {s : ByteArray} (h : readT s 6 false 65536 = none) : opn (L s) = (0, [], 2) :=
  opn_none fun k l t hf => by rw [readT_form hf] at h; exact absurd h (by simp)
theorem ans_len {s : ByteArray} {n c : Nat} (h : readT s 6 false 65536 = some (n, c)) (hl : s.size ≠ 6 + (n + c) + 4) : opn (L s) = (0, [], 2) :=
  opn_none fun k l t hf => by
    rw [readT_form hf] at h
    have h := Option.some.inj h
    have e1 : l.length = n := congrArg Prod.fst h
    have e2 : (enc l.length).length = c := congrArg Prod.snd h
    have := hf.len
    rw [L_len] at this
    omega
theorem ans_sum {s : ByteArray} {n c : Nat} (h6 : 6 ≤ s.size) (hm : s.extract 0 4 = smph) (h4 : s[4].toNat = 1) (h1 : 1 ≤ s[5].toNat) (h8 : s[5].toNat ≤ 8) (h : readT s 6 false 65536 = some (n, c)) (hl : s.size = 6 + (n + c) + 4) :
    opn (L s) = if bs (fsum (L (s.extract 0 (6 + (n + c))))) = s.extract (6 + (n + c)) s.size then (s[5].toNat, L (textB (restB s 6 false) (some (n, c))), 0) else (0, [], 11) := by
  obtain ⟨N, hn, _⟩ := readT_num h6 h
  have e : L (restB s 6 false) = (L s).drop 6 := restB_L (i := 6) h6
  have F := form_of ((head_parts h6 (by omega)).2 ⟨hm, h4, rfl⟩) h1 h8 N hn (by rw [L_len]; omega)
  have ET : L (textB (restB s 6 false) (some (n, c))) = (((L s).drop 6).drop c).take n := by
    rw [textB_some, L_ext, e]
    congr 1
    omega
  have HD : L (s.extract (6 + (n + c)) s.size) = (L s).drop (6 + c + n) := by rw [L_drop, show 6 + c + n = 6 + (n + c) by omega]
  rw [ET]
  generalize (((L s).drop 6).drop c).take n = pl at *
  generalize (L s).drop (6 + c + n) = t at *
  have EB : (L s).take (6 + (n + c)) = fbody s[5].toNat pl := by
    have q := F.eq
    have len : (fbody s[5].toNat pl).length = 6 + (n + c) := by
      have := F.len
      rw [L_len] at this
      rw [fbody_len]
      omega
    generalize s[5].toNat = kk at *
    rw [← len, q]
    exact List.take_left
  rw [opn_form F, L_take, EB]
  by_cases q : t = fsum (fbody s[5].toNat pl)
  · rw [if_pos q, if_pos (L_inj (by rw [HD, q]))]
  · rw [if_neg q, if_neg (fun z => q (by rw [← HD, ← z]))]
theorem new_three (W : World) (a b c : Value) (t : TypeId) : (W.alloc (.cells #[a, b, c] t)).cell? ⟨W.heap.size, 1, none⟩ = some b := by
  show (match (W.alloc (.cells #[a, b, c] t)).heap[W.heap.size]? with | some (.cells c _ _) => if (none : Option Nat).isSome then none else c[1]? | _ => none) = _
  rw [heap_alloc_new]; rfl
theorem refOpen_good (s : ByteArray) (hs : s.size ≤ 100000) (h6 : 6 ≤ s.size) (hm : s.extract 0 4 = smph) (h4 : s[4].toNat = 1) (h1 : 1 ≤ s[5].toNat) (h8 : s[5].toNat ≤ 8) (w : World) :
    Calls Try.prog 13 #[.string s] w fun e w' => e = .returned (.tuple #[.int .i64 ((opn (L s)).1 : Int), .string (bs (opn (L s)).2.1), .int .i64 ((opn (L s)).2.2 : Int)]) ∧ Below w.heap.size w w' := by
  have KR := Lib.hid (fun W => refReadText_any s 6 false 65536 (by omega) (by decide) W)
  obtain ⟨tx, htx⟩ : ∃ x, x = textB (restB s 6 false) (readT s 6 false 65536) := ⟨_, rfl⟩
  obtain ⟨ro, hro⟩ : ∃ x, x = readT s 6 false 65536 := ⟨_, rfl⟩
  rw [← htx, ← hro] at KR
  obtain ⟨rv, hrv⟩ : ∃ x, x = rdo s 6 (ro.map fun x => x.1 + x.2) := ⟨_, rfl⟩
  rw [← hrv] at KR
  have l6 : ¬ (s.size : Int) < 6 := by omega
  have i4 : (4 : Int) < s.size := by omega
  have i5 : (5 : Int) < s.size := by omega
  have n4 : (4 : Int) ≤ s.size := by omega
  have q4 : 4 < s.size := by omega
  have q5 : 5 < s.size := by omega
  have hq : ((s.extract 0 4).toList == [83, 77, 80, 72]) = true := by rw [ByteArray.toList_eq, hm]; rfl
  have HM := Lib.hid hm
  have h4' : (s[4].toNat : Int) = 1 := by omega
  have h5a : ¬ (s[5].toNat : Int) < 1 := by omega
  have h5b : ¬ (8 : Int) < s[5].toNat := by omega
  clear hm
  go_enter Try.func13, Try.ntmps13
  go_wp2_with fail
  refine (KR.out w).mono ?_
  rintro e W ⟨rfl, B⟩
  cases hc : ro with
  | none =>
    have A := Lib.hid (ans_none (hro.symm.trans hc))
    have hv : rv = .agg #[.string s, .int .i64 6, .bool true] := by rw [hrv, hc]; rfl
    clear htx hro hc hrv
    subst hv
    go_wp2_with fail
    go_ret3
    rw [A.out]
    exact ⟨rfl, B.alloc B.size _⟩
  | some x =>
    obtain ⟨n, c⟩ := x
    obtain ⟨p, hp⟩ : ∃ p, p = 6 + (n + c) := ⟨_, rfl⟩
    have hi : (6 : Int) + ((n + c : Nat) : Int) = (p : Int) := by omega
    have pb : p ≤ s.size := by rw [hp]; exact (readT_num h6 (hro.symm.trans hc)).2.2
    have hv : rv = .agg #[.string s, .int .i64 (p : Int), .bool false] := by
      rw [hrv, hc]
      show rd s ((6 : Int) + ((n + c : Nat) : Int)) false = _
      rw [hi]
    clear hi hrv
    by_cases hl : s.size = p + 4
    · have A := Lib.hid (ans_sum h6 HM.out h4 h1 h8 (hro.symm.trans hc) (by omega))
      have hl' : (s.size : Int) = (p : Int) + 4 := by omega
      rw [← hp] at A
      have ex : textB (restB s 6 false) (some (n, c)) = tx := by rw [htx, ← hro, hc]
      rw [ex] at A
      have KS := Lib.hid (fun W => refFSum_any (s.extract 0 p) (by rw [ByteArray.size_extract]; omega) W)
      clear htx hro hc ex hp
      subst hv
      go_wp2_with fail
      have c1 : (W.alloc (Obj.cells #[.string s, .int .i64 (p : Int), .bool false] 51)).cell? ⟨W.heap.size, 1, none⟩ = some (.int .i64 (p : Int)) := new_three _ _ _ _ _
      have BV := B.alloc B.size (Obj.cells #[.string s, .int .i64 (p : Int), .bool false] 51)
      generalize W.alloc (Obj.cells #[.string s, .int .i64 (p : Int), .bool false] 51) = V at *
      generalize W.heap.size = g at *
      have p0 : (0 : Int) ≤ p := by omega
      have pq : (p : Int) ≤ (p : Int) + 4 := by omega
      obtain ⟨u, hu⟩ : ∃ u, u = bs (fsum (L (s.extract 0 p))) := ⟨_, rfl⟩
      rw [← hu] at A KS
      clear hu
      go_region_held3 (fun w' => w'.cell? ⟨g, 1, none⟩ = some (.int .i64 (p : Int)))
        (first | with_reducible exact c1 | with_reducible exact keep_drew c1 | with_reducible exact keep_cell (by assumption) (keep_drew c1) | with_reducible exact keep_drew (keep_cell (by assumption) c1) | with_reducible exact keep_cell (by assumption) c1)
        (first | (go_at_call 18; (with_reducible refine (KS.out _).mono ?_); rintro e w2 ⟨rfl, B2⟩))
      all_goals go_wp2_with fail
      · rename_i h
        have ne : ¬ u = s.extract p s.size := by
          intro e
          rw [hl] at e
          rw [e] at h
          simp at h
        go_ret3
        rw [A.out, if_neg ne]
        exact ⟨rfl, below_step BV.drew B2⟩
      · rename_i h h'
        have e : u = s.extract p s.size := by
          rw [hl]
          have h : (u.toList == (s.extract p (p + 4)).toList) = true := by simpa using h
          have h := eq_of_beq h
          rw [ByteArray.toList_eq, ByteArray.toList_eq] at h
          exact L_inj h
        go_ret3
        rw [A.out, if_pos e]
        refine ⟨?_, below_step BV.drew B2⟩
        show _ = Ending.returned (.tuple #[.int .i64 (s[5].toNat : Int), .string (bs (L tx)), .int .i64 0])
        rw [bs_L]
        rfl
    · have A := Lib.hid (ans_len (hro.symm.trans hc) (by omega))
      have hl' : ¬ (s.size : Int) = (p : Int) + 4 := by omega
      have hb : ((s.size : Int) != (p : Int) + 4) = true := by simp [hl']
      clear htx hro hc hp hl
      subst hv
      go_wp2_with fail
      go_ret3
      rw [A.out]
      exact ⟨rfl, B.alloc B.size _⟩
/-- What the document's Open answers. -/
theorem refOpen_any (s : ByteArray) (hs : s.size ≤ 100000) (w : World) : Calls Try.prog 13 #[.string s] w fun e w' => e = .returned (.tuple #[.int .i64 ((opn (L s)).1 : Int), .string (bs (opn (L s)).2.1), .int .i64 ((opn (L s)).2.2 : Int)]) ∧ Below w.heap.size w w' := by
  by_cases h : ∃ h6 : 6 ≤ s.size, s.extract 0 4 = smph ∧ s[4].toNat = 1 ∧ 1 ≤ s[5].toNat ∧ s[5].toNat ≤ 8
  · obtain ⟨h6, hm, h4, h1, h8⟩ := h
    exact refOpen_good s hs h6 hm h4 h1 h8 w
  · refine (refOpen_bad s hs h w).mono ?_
    rintro e w' ⟨rfl, rfl⟩
    rw [opn_bad h]
    exact ⟨rfl, Below.refl _ _⟩
end Go.Proofs.Ythbgbgobfoecoaa
namespace Go.Proofs.Ythbgbgobfoecoaa.Crc
open Go.RowKit
set_option maxHeartbeats 2000000
set_option maxRecDepth 100000
/-- The table's cells, so many filled. -/
@[irreducible] def tc (k : Nat) : Array Value := ((List.range 256).map (fun i => Value.int .u32 (if i < k then J (tab (UInt8.ofNat i)) else 0))).toArray
theorem tc_size (k : Nat) : (tc k).size = 256 := by unfold tc; simp
theorem tc_at (k i : Nat) (h : i < 256) : (tc k)[i]? = some (Value.int .u32 (if i < k then J (tab (UInt8.ofNat i)) else 0)) := by
  unfold tc
  rw [List.getElem?_toArray, List.getElem?_map, List.getElem?_range h]; rfl
theorem tc_set (k : Nat) (h : k < 256) : (tc k).setIfInBounds k (.int .u32 (J (tab (UInt8.ofNat k)))) = tc (k + 1) := by
  apply Array.ext_getElem?
  intro i
  rw [Array.getElem?_setIfInBounds]
  by_cases hi : i < 256
  · rw [tc_at _ _ hi, tc_at _ _ hi, tc_size]
    by_cases e : k = i
    · subst e
      rw [if_pos rfl, if_pos h, if_pos (Nat.lt_succ_self _)]
    · rw [if_neg e]
      congr 2
      by_cases l : i < k
      · rw [if_pos l, if_pos (by omega)]
      · rw [if_neg l, if_neg (by omega)]
  · rw [if_neg (by omega), Array.getElem?_eq_none (by rw [tc_size]; omega), Array.getElem?_eq_none (by rw [tc_size]; omega)]
theorem tc_zero : tc 0 = Array.replicate 256 (.int .u32 0) := by
  apply Array.ext_getElem?
  intro i
  rw [Array.getElem?_replicate]
  by_cases hi : i < 256
  · rw [tc_at _ _ hi, if_neg (by omega), if_pos hi]
  · rw [if_neg hi, Array.getElem?_eq_none (by rw [tc_size]; omega)]
theorem tc_one (k : Nat) : (tc k).all (·.oneCell') = true := by
  rw [Array.all_eq_true]
  intro i hi
  have h : i < 256 := by rw [tc_size] at hi; exact hi
  have := tc_at k i h
  rw [Array.getElem?_eq_getElem hi] at this
  rw [Option.some.inj this]; rfl
theorem tc_byte (b : UInt8) : (tc 256)[b.toNat]? = some (.int .u32 (J (tab b))) := by
  have h := b.toNat_lt
  rw [tc_at _ _ (by omega), if_pos (by omega), UInt8.ofNat_toNat]
theorem info_tab : (Try.prog.info? 75).map (fun i => (i.zero, i.size)) = some (some (.agg (Array.replicate 256 (.int .u32 0))), 256) := by kernel_rfl
theorem zero_tab (w : World) : (zeroValue 75).run Try.prog w = .ok (.agg (tc 0)) w := by rw [tc_zero]; exact (zero_of_info info_tab).1 w
theorem size_tab (k : Nat) : (Try.prog.info? 75).map (·.size) = some (tc k).size := by rw [tc_size]; exact (zero_of_info info_tab).2
/-- A whole row written. -/
theorem Two.row {w W : World} {g r : Nat} {cs ds : Array Value} (h : Two w g r cs ds W) (c : Array Value) : Two w g r cs c (W.setRow r c) := by
  obtain ⟨t, hr⟩ := h.br
  obtain ⟨t', hg⟩ := h.bg
  exact ⟨⟨t', by rw [setRow_other _ _ _ _ h.ne]; exact hg⟩, ⟨t, setRow_heap _ _ _ _ _ _ hr⟩, h.ne, h.hg, h.hr,
    ⟨h.bl.os, h.bl.tape, h.bl.output, by rw [setRow_size]; exact h.bl.size, fun k hk => (setRow_other _ _ _ _ (by have := h.hr; omega)).trans (h.bl.block k hk)⟩⟩
theorem table_any (w : World) : Calls Try.prog 45 #[] w fun e w' => e = .returned (.agg (tc 256)) ∧ Below w.heap.size w w' := by
  have Z := zero_tab
  go_enter Try.func45, Try.ntmps45
  go_wp2_with fail
  have M := (Two.new w (tc 0) (tc 0) 75 75).swap
  generalize (w.alloc (.cells (tc 0) 75)).alloc (.cells (tc 0) 75) = W0 at *
  obtain ⟨r, hr⟩ : ∃ r, r = w.heap.size := ⟨_, rfl⟩
  obtain ⟨g, hg⟩ : ∃ g, g = r + 1 := ⟨_, rfl⟩
  rw [← hr, ← hg] at M
  rw [← hr, ← hg]
  clear hg hr Z
  go_loopg [3] 256 (fun q s3 wr => ∃ k : Nat, k + q = 256 ∧ s3 = .int .i64 (k : Int) ∧ Two w g r (tc k) (tc 0) wr)
  case atStart => exact ⟨0, by omega, rfl, M⟩
  case round =>
    clear M
    obtain ⟨k, hq, rfl, M⟩ := hrel
    have HQ := Lib.hid hq
    by_cases lt : k < 256
    · have il : (k : Int) < 256 := by omega
      have il0 : (0 : Int) ≤ k := by omega
      have kb : (UInt8.ofNat k).toNat = k := by rw [UInt8.toNat_ofNat']; omega
      have K := Lib.hid (place_any (UInt8.ofNat k))
      rw [kb] at K
      clear kb
      have S := Lib.hid (tc_set k lt)
      have c := M.bg.cell (tc_at k k lt)
      have f := M.bg.melt k
      clear hq
      go_wp2_with fail
      refine (K.out _).mono ?_
      rintro e y ⟨rfl, rfl⟩
      go_wp2_with fail
      go_roundg (gk - 1)
      case measure => have := HQ.out; omega
      case rel =>
        go_light
        exact ⟨k + 1, by have := HQ.out; omega, by go_num, by rw [← S.out]; exact M.set k _⟩
    · obtain rfl : 256 = k := by omega
      clear hq lt
      obtain ⟨t1, G⟩ := M.bg
      obtain ⟨t2, R⟩ := M.br
      have hG := Lib.hid G
      have hR := Lib.hid R
      clear G R
      go_wp2_with (first
        | (refine wpList_load_row rfl 75 _ rfl g rfl t1 (tc 256) (0, 0) _ hG.out Try.underlying75 rfl (size_tab 256) ?_)
        | (refine wpList_store_row rfl 75 _ _ rfl r (tc 256) rfl rfl t2 (tc 0) hR.out (size_tab 256) (by rw [tc_size, tc_size]) (tc_one 256) ?_))
      replace M := M.row (tc 256)
      obtain ⟨t3, R⟩ := M.br
      exact bodyPost_ret (results_cell_row rfl _ _ r t3 (tc 256) (0, 0) _ rfl R Try.underlying75 rfl (size_tab 256)) rfl ⟨rfl, M.bl⟩
end Go.Proofs.Ythbgbgobfoecoaa.Crc
namespace Go.Proofs.Ythbgbgobfoecoaa.Crc
open Go.RowKit
set_option maxHeartbeats 400000
set_option maxRecDepth 100000
theorem One.row {w W : World} {g : Nat} {cs : Array Value} (h : One w g cs W) (c : Array Value) : One w g c (W.setRow g c) := by
  obtain ⟨t, hr⟩ := h.bg
  exact ⟨⟨t, setRow_heap _ _ _ _ _ _ hr⟩, h.hg,
    ⟨h.bl.os, h.bl.tape, h.bl.output, by rw [setRow_size]; exact h.bl.size, fun k hk => (setRow_other _ _ _ _ (by have := h.hg; omega)).trans (h.bl.block k hk)⟩⟩
theorem One.over {w W : World} (h : Below w.heap.size w W) (cs : Array Value) (t : TypeId) : One w W.heap.size cs (W.alloc (.cells cs t)) :=
  ⟨Box.new _ _ _, h.size, below_al h _⟩
theorem byTable_any (x : BitVec 32) (s : ByteArray) (hs : s.size ≤ 100000) (w : World) : Calls Try.prog 41 #[.int .u32 (J x), .string s] w fun e w' => e = .returned (.int .u32 (J (upd x (L s)))) ∧ Below w.heap.size w w' := by
  have Z := zero_tab
  go_enter Try.func41, Try.ntmps41
  go_wp2_with fail
  refine (table_any _).mono ?_
  rintro e W ⟨rfl, B⟩
  have M := One.over B (tc 0) 75
  obtain ⟨t1, G⟩ := M.bg
  have hG := Lib.hid G
  clear G
  obtain ⟨g, hg⟩ : ∃ g, g = W.heap.size := ⟨_, rfl⟩
  rw [← hg] at M hG
  go_wp2_with (refine wpList_store_row rfl 75 _ _ rfl g (tc 256) (by rw [hg]; rfl) rfl t1 (tc 0) hG.out (size_tab 256) (by rw [tc_size, tc_size]) (tc_one 256) ?_)
  replace M := M.row (tc 256)
  rw [← hg]
  obtain ⟨W1, hW⟩ : ∃ W1, W1 = (W.alloc (.cells (tc 0) 75)).setRow g (tc 256) := ⟨_, rfl⟩
  rw [← hW] at M
  rw [← hW]
  clear hW
  clear hg hG B Z
  go_loopg [0, 10] s.size (fun q s0 s10 wr => ∃ k : Nat, k + q = s.size ∧ s10 = .int .i64 (k : Int) ∧ s0 = .int .u32 (J (upd x ((L s).take k))) ∧ wr = W1)
  case atStart => exact ⟨0, by omega, rfl, by rw [List.take_zero, upd_nil], rfl⟩
  case round =>
    obtain ⟨k, hq, rfl, rfl, rfl⟩ := hrel
    have HQ := Lib.hid hq
    by_cases lt : k < s.size
    · have il : (k : Int) < s.size := by omega
      have il0 : (0 : Int) ≤ k := by omega
      have E := Lib.hid (upd_take x s k lt)
      generalize upd x ((L s).take k) = r at *
      have W8 := wrap8_J r
      have X8 := xor_8 (lo r) s[k]
      have E2 := Lib.hid (crcStep_tab r s[k])
      generalize lo r ^^^ s[k] = b at *
      have hb : (b.toNat : Int) < 256 := by have := b.toNat_lt; omega
      have c := M.bg.cell (tc_byte b)
      clear hq
      go_wp2_with fail
      rw [shr8_J, xor_J, ← E2.out]
      go_roundg (gk - 1)
      case measure => have := HQ.out; omega
      case rel =>
        go_light
        exact ⟨k + 1, by have := HQ.out; omega, by go_num, by rw [E.out], rfl⟩
    · obtain rfl : s.size = k := by omega
      have il : ¬ (s.size : Int) < s.size := by omega
      have E : Hid ((L s).take s.size = L s) := L_all s
      clear hq
      go_wp2_with fail
      go_ret
      exact ⟨by rw [E.out]; rfl, M.bl⟩
theorem more_any (x : BitVec 32) (s : ByteArray) (hs : s.size ≤ 100000) (w : World) : Calls Try.prog 32 #[.int .u32 (J x), .string s] w fun e w' => e = .returned (.int .u32 (J (crcMore x (L s)))) ∧ Below w.heap.size w w' := by
  have N := cnot_J x
  have K1 := Lib.hid (byPlaces_any (~~~ x) s hs)
  have K2 := Lib.hid (byTable_any (~~~ x) s hs)
  obtain ⟨z, hz⟩ : ∃ z, Hid (z = upd (~~~ x) (L s)) := ⟨_, Lib.hid rfl⟩
  rw [← hz.out] at K1 K2
  have N2 := cnot_J z
  have E : Hid (crcMore x (L s) = ~~~ z) := by unfold Hid crcMore; rw [hz.out]
  go_enter Try.func32, Try.ntmps32
  by_cases big : s.size ≤ 192
  · have b1 : (s.size : Int) ≤ 192 := by omega
    go_wp2_with fail
    refine (K1.out _).mono ?_
    rintro e y ⟨rfl, rfl⟩
    go_wp2_with fail
    go_ret
    exact ⟨by rw [E.out]; rfl, Below.refl _ _⟩
  · have b1 : ¬ (s.size : Int) ≤ 192 := by omega
    go_wp2_with fail
    refine (K2.out _).mono ?_
    rintro e y ⟨rfl, B⟩
    go_wp2_with fail
    go_ret
    exact ⟨by rw [E.out]; rfl, B⟩
/-- The sum of a text. -/
@[irreducible] def crcSum (l : List UInt8) : BitVec 32 := crcMore 0#32 l
theorem crcSum_eq (l : List UInt8) : crcSum l = crcMore 0#32 l := by unfold crcSum; rfl
theorem sum_any (s : ByteArray) (hs : s.size ≤ 100000) (w : World) : Calls Try.prog 23 #[.string s] w fun e w' => e = .returned (.int .u32 (J (crcSum (L s)))) ∧ Below w.heap.size w w' := by
  have K := Lib.hid (more_any 0#32 s hs)
  rw [← kJ0, ← crcSum_eq] at K
  go_enter Try.func23, Try.ntmps23
  go_wp2_with fail
  refine (K.out _).mono ?_
  rintro e y ⟨rfl, B⟩
  go_wp2_with fail
  go_ret
  exact ⟨rfl, B⟩
theorem index_tab (k : IntKind) (b : UInt8) (w : World) : (Instr.index 75 (.agg (tc 256)) (.int k (b.toNat : Int))).run Try.prog w = .ok (.int .u32 (J (tab b))) w := by
  have hi : (Try.prog.info? 35).map (·.size) = some 1 := by kernel_rfl
  have h : b.toNat < 256 := b.toNat_lt
  have g := tc_byte b
  cases hq : Try.prog.info? 35 with
  | none => simp [hq] at hi
  | some i =>
    have hs : i.size = 1 := by simpa [hq] using hi
    simp [Instr.index, asIntOf, run_underlying Try.underlying75, part, isAgg, run_underlying Try.underlying35, sizeOf, typeInfo, h, g, hq, hs]
end Go.Proofs.Ythbgbgobfoecoaa.Crc
namespace Go.Proofs.Ythbgbgobfoecoaa.Crc
open Go.RowKit
/-- The bytes l lie in block g. -/
def Byt (W : World) (g : Nat) (l : List UInt8) : Prop := ∀ (j : Nat) (h : j < l.length), W.cell? ⟨g, j, none⟩ = some (.int .u8 (l[j].toNat : Int))
theorem Byt.next {W W' : World} {g : Nat} {l : List UInt8} (hb : Below W.heap.size W W') (h : Byt W g l) : Byt W' g l := fun j hj => keep_cell hb (h j hj)
theorem Byt.drew {W : World} {g : Nat} {l : List UInt8} (h : Byt W g l) : Byt W.drew g l := h
theorem conv_of {W : World} {g : Nat} {l : List UInt8} {n c : Nat} (hn : l.length = n) (h : Byt W g l) : (convert 36 9 (.slice (some ⟨g, 0, none⟩) n c)).run Try.prog W = .ok (.string (bs l)) W := by
  subst hn
  exact run_convert_bytes_back W 36 9 5 ⟨g, 0, none⟩ c l Try.underlying36 Try.underlying5 Try.underlying9 (fun j hj => by
    have : (⟨g, 0, none⟩ : Addr).add j = ⟨g, j, none⟩ := by unfold Addr.add; split <;> simp_all
    rw [this]; exact h j hj)
/-- .. of the call's own, that may be written. -/
structure Bts (w : World) (g : Nat) (l : List UInt8) (W : World) : Prop where
  cell : Byt W g l
  melt : ∀ j, j < l.length → W.frozen? ⟨g, j, none⟩ = false
  hg : w.heap.size ≤ g
  bl : Below w.heap.size w W
theorem Bts.drew {w W : World} {g : Nat} {l : List UInt8} (h : Bts w g l W) : Bts w g l W.drew := ⟨h.cell, h.melt, h.hg, h.bl.drew⟩
theorem Bts.set {w W : World} {g : Nat} {l : List UInt8} (h : Bts w g l W) (i : Nat) (b : UInt8) : Bts w g (l.set i b) (W.setCell ⟨g, i, none⟩ (.int .u8 (b.toNat : Int))) := by
  refine ⟨fun j hj => ?_, fun j hj => ?_, h.hg, below_set h.bl h.hg _⟩
  · have hl : j < l.length := by rw [List.length_set] at hj; exact hj
    rw [List.getElem_set]
    by_cases e : i = j
    · subst e
      rw [if_pos rfl, World.cell?_setCell_same _ _ _ (h.cell i hl)]
    · rw [if_neg e, World.cell?_setCell_other _ _ _ _ (fun k => e (by cases k; rfl)), h.cell j hl]
  · rw [World.frozen?_setCell]
    exact h.melt j (by rw [List.length_set] at hj; exact hj)
/-- The bytes of a text, made anew. -/
theorem bytes_new (W : World) (s : ByteArray) : ∃ (c : Nat) (W' : World), (convert 9 36 (.string s)).run Try.prog W = .ok (.slice (some ⟨W.heap.size, 0, none⟩) s.size c) W' ∧ Bts W W.heap.size (L s) W' := by
  refine ⟨_, _, run_bytes_of_string W 9 36 5 s Try.underlying9 Try.underlying36 Try.underlying5, ⟨fun j hj => ?_, fun j hj => ?_, Nat.le_refl _, below_al (Below.refl _ _).drew _⟩⟩
  · have := World.cell?_alloc_mark W.drew (bytesRow s (grownCap W s.size 0 5)) 5 ((bytesRow s (grownCap W s.size 0 5)).size, (bytesRow s (grownCap W s.size 0 5)).size + 1) j
    have hj' : j < s.data.size := by simpa using hj
    rw [bytesRow_at s _ j hj'] at this
    exact this
  · have := World.frozen?_alloc_mark W.drew (bytesRow s (grownCap W s.size 0 5)) 5 (bytesRow s (grownCap W s.size 0 5)).size ((bytesRow s (grownCap W s.size 0 5)).size + 1) j
    have hj' : j < s.data.size := by simpa using hj
    have hs : s.data.size ≤ (bytesRow s (grownCap W s.size 0 5)).size := by unfold bytesRow; simp
    have e : (decide ((bytesRow s (grownCap W s.size 0 5)).size ≤ j) && decide (j < (bytesRow s (grownCap W s.size 0 5)).size + 1)) = false := by
      rw [decide_eq_false (by omega), Bool.false_and]
    rw [e] at this
    exact this
/-- No bytes yet: so many noughts, made anew. -/
theorem bytes_make (W : World) (n : Nat) (hn : n ≤ 100000) (k k' : IntKind) : ∃ W' : World, (Instr.makeSlice 36 (.int k (n : Int)) (.int k' (n : Int))).run Try.prog W = .ok (.slice (some ⟨W.heap.size, 0, none⟩) n n) W' ∧ Bts W W.heap.size (List.replicate n 0) W' := by
  have hi : (Try.prog.info? 5).map (fun i => (i.zero, i.size, i.bytes)) = some (some (.int .u8 0), 1, 1) := by kernel_rfl
  cases hq : Try.prog.info? 5 with
  | none => simp [hq] at hi
  | some i =>
    obtain ⟨h1, h2, h3⟩ : i.zero = some (.int .u8 0) ∧ i.size = 1 ∧ i.bytes = 1 := by simpa [hq] using hi
    have := run_make W 36 5 i _ Try.underlying36 hq h1 k k' (n : Int) (n : Int) (by omega) (by omega) (by rw [h3]; omega) (by omega)
    rw [Int.toNat_natCast, h2, Nat.mul_one] at this
    have hz : ∀ j, j < n → (madeCells (Value.int .u8 0).cells n)[j]? = some (.int .u8 0) := fun j hj => by
      simp [madeCells, Value.cells, hj, Nat.mod_one]
    refine ⟨_, this, ⟨fun j hj => ?_, fun j hj => ?_, Nat.le_refl _, (Below.refl _ _).alloc (Nat.le_refl _) _⟩⟩
    · have hj' : j < n := by simpa using hj
      rw [World.cell?_alloc_mark W, hz j hj', List.getElem_replicate]; rfl
    · rw [World.frozen?_alloc_mark]; simp
end Go.Proofs.Ythbgbgobfoecoaa.Crc
namespace Go.Proofs.Ythbgbgobfoecoaa
open Go.RowKit
set_option linter.unusedVariables false
set_option linter.unusedSimpArgs false
set_option maxHeartbeats 1000000
set_option maxRecDepth 100000
/-- Are there sixteen bytes? -/
@[irreducible] def readW (s : ByteArray) (p : Int) (lo : Bool) : Option Nat := if okR s.size p lo = true ∧ 16 ≤ (restB s p lo).size then some 16 else none
theorem readW_none {s : ByteArray} {p : Int} {lo : Bool} (h : ¬ (okR s.size p lo = true ∧ 16 ≤ (restB s p lo).size)) : readW s p lo = none := by unfold readW; rw [if_neg h]
theorem readW_some {s : ByteArray} {p : Int} {lo : Bool} (h : okR s.size p lo = true ∧ 16 ≤ (restB s p lo).size) : readW s p lo = some 16 := by unfold readW; rw [if_pos h]
/-- The number of an answer, its high half first. -/
@[irreducible] def wideB (b : ByteArray) : Option Nat → Nat × Nat
  | some _ => (vle (L (b.extract 8 16)), vle (L (b.extract 0 8)))
  | none => (0, 0)
theorem wideB_some (b : ByteArray) (k : Nat) : wideB b (some k) = (vle (L (b.extract 8 16)), vle (L (b.extract 0 8))) := by unfold wideB; rfl
theorem wideB_none (b : ByteArray) : wideB b none = (0, 0) := by unfold wideB; rfl
abbrev w128 (x : Nat × Nat) : Value := .agg #[.int .u64 (x.1 : Int), .int .u64 (x.2 : Int)]
end Go.Proofs.Ythbgbgobfoecoaa
namespace Go.Proofs.Ythbgbgobfoecoaa
open Go.RowKit
set_option linter.unusedVariables false
set_option linter.unusedSimpArgs false
set_option maxHeartbeats 1000000
set_option maxRecDepth 100000
theorem bs_app (a b : List UInt8) : bs a ++ bs b = bs (a ++ b) := L_inj (by rw [L_app])
end Go.Proofs.Ythbgbgobfoecoaa
namespace Go.Proofs.Ythbgbgobfoecoaa
open Go.RowKit
set_option linter.unusedVariables false
set_option linter.unusedSimpArgs false
set_option maxHeartbeats 1000000
set_option maxRecDepth 100000
/-- Limbs, in four bytes each. -/
def lbs : List Nat → List UInt8
  | [] => []
  | x :: xs => leb x 4 ++ lbs xs
theorem lbs_nil : lbs [] = [] := rfl
theorem lbs_cons (x : Nat) (xs : List Nat) : lbs (x :: xs) = leb x 4 ++ lbs xs := rfl
theorem lbs_app (xs ys : List Nat) : lbs (xs ++ ys) = lbs xs ++ lbs ys := by
  induction xs with
  | nil => rw [lbs_nil]; rfl
  | cons x xs ih => rw [List.cons_append, lbs_cons, lbs_cons, ih, List.append_assoc]
theorem lbs_len (xs : List Nat) : (lbs xs).length = 4 * xs.length := by
  induction xs with
  | nil => rw [lbs_nil]; rfl
  | cons x xs ih => rw [lbs_cons, List.length_append, leb_len, ih, List.length_cons]; omega
/-- Limbs as they are written. -/
abbrev natS (xs : List Nat) : List UInt8 := enc xs.length ++ lbs xs
theorem lbs_take {xs : List Nat} {i : Nat} (h : i < xs.length) : lbs (xs.take (i + 1)) = lbs (xs.take i) ++ leb xs[i] 4 := by
  rw [List.take_succ_eq_append_getElem h, lbs_app, lbs_cons, lbs_nil, List.append_nil]
end Go.Proofs.Ythbgbgobfoecoaa
