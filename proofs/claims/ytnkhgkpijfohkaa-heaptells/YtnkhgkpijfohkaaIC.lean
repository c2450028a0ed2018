/- What the law HeapTells keeps: the four answers, two items; the first place of a key, from behind. -/
import Derived.Test.YtnkhgkpijfohkaaIB
namespace Go.Proofs.Ytnkhgkpijfohkaa
open Go.RowKit
set_option linter.unusedVariables false
set_option linter.unusedSimpArgs false
set_option maxHeartbeats 4000000
set_option maxRecDepth 100000
/-- The first place of a key from k on, or -1. -/
noncomputable def firstI (l : List It) (key : ByteArray) (k : Nat) : Int :=
  match findL (l.drop k) key with
  | none => -1
  | some j => ((k + j : Nat) : Int)
theorem firstI_end (l : List It) (key : ByteArray) : firstI l key l.length = -1 := by
  unfold firstI
  rw [List.drop_length]
  rfl
theorem firstI_step {l : List It} {key : ByteArray} {k : Nat} (h : k < l.length) : firstI l key k = if (nth l k).k = key then (k : Int) else firstI l key (k + 1) := by
  unfold firstI
  rw [List.drop_eq_getElem_cons h, ← nth_eq h, findL]
  by_cases e : (nth l k).k = key
  · rw [if_pos e, if_pos e]; rfl
  · rw [if_neg e, if_neg e]
    cases findL (l.drop (k + 1)) key with
    | none => rfl
    | some j =>
      show ((k + (j + 1) : Nat) : Int) = ((k + 1 + j : Nat) : Int)
      omega
theorem firstI_none {l : List It} {key : ByteArray} (h : findL l key = none) : firstI l key 0 = -1 := by
  unfold firstI; rw [List.drop_zero, h]
theorem firstI_some {l : List It} {key : ByteArray} {j : Nat} (h : findL l key = some j) : firstI l key 0 = (j : Int) := by
  unfold firstI; rw [List.drop_zero, h]; show ((0 + j : Nat) : Int) = (j : Int); omega
/-- What lies there: what was handed in, three answers' lists, two items in blocks of the call's own. -/
structure Tl (w : World) (A : Option Addr) (n c : Nat) (l : List It) (B1 : Option Addr) (n1 d1 : Nat) (p : List It) (B2 : Option Addr) (n2 d2 : Nat) (r : List It) (B3 : Option Addr) (n3 d3 : Nat) (q : List It) (g : Nat) (x : It) (g2 : Nat) (y : It) (W : World) : Prop where
  h : Its W A n c l
  p : Its W B1 n1 d1 p
  r : Its W B2 n2 d2 r
  q : Its W B3 n3 d3 q
  x : Box W g #[.string x.k, .int .u64 (x.u : Int), .int .u64 (x.w : Int)]
  y : Box W g2 #[.string y.k, .int .u64 (y.u : Int), .int .u64 (y.w : Int)]
  bl : Below w.heap.size w W
section
variable {w W W' : World} {A B1 B2 B3 : Option Addr} {n c n1 d1 n2 d2 n3 d3 g g2 : Nat} {l p r q : List It} {x y : It}
theorem Tl.next (t : Tl w A n c l B1 n1 d1 p B2 n2 d2 r B3 n3 d3 q g x g2 y W) (hb : Below W.heap.size W W') : Tl w A n c l B1 n1 d1 p B2 n2 d2 r B3 n3 d3 q g x g2 y W' :=
  ⟨t.h.next hb, t.p.next hb, t.r.next hb, t.q.next hb, t.x.next hb, t.y.next hb, below_step t.bl hb⟩
theorem Tl.drew (t : Tl w A n c l B1 n1 d1 p B2 n2 d2 r B3 n3 d3 q g x g2 y W) : Tl w A n c l B1 n1 d1 p B2 n2 d2 r B3 n3 d3 q g x g2 y W.drew :=
  t.next (Below.refl _ _).drew
end
section
variable {A : Option Addr} {n c : Nat} {l : List It} {w : World}
/-- The calls, with the length as it stands. -/
theorem Prog11.rightN (P : Prog11) (I : Its w A n c l) (hc : A = none → c = 0) (hn : n ≤ 1000) : Calls Try.prog 15 #[.slice A n c] w fun e w' => e = .returned (.bool (rightB l)) ∧ Below w.heap.size w w' := by
  obtain rfl := I.len; exact P.right ⟨I, hc⟩ hn
theorem Prog11.findN (P : Prog11) (I : Its w A n c l) (hc : A = none → c = 0) (hn : n ≤ 1000) (k : ByteArray) : Calls Try.prog 13 #[.slice A n c, .string k] w fun e w' => ∃ (at_ : Nat) (ok : Bool), e = .returned (.tuple #[.int .i64 (at_ : Int), .bool ok]) ∧ at_ = (findA l k).getD 0 ∧ ok = (findA l k).isSome ∧ Below w.heap.size w w' := by
  obtain rfl := I.len
  refine (P.find ⟨I, hc⟩ hn k).mono ?_
  rintro e w' ⟨rfl, b⟩
  exact ⟨_, _, rfl, rfl, rfl, b⟩
theorem Prog11.pushN (P : Prog11) (I : Its w A n c l) (hc : A = none → c = 0) (hn : n ≤ 1000) (x : It) (fx : x.Fit) : Calls Try.prog 10 #[.slice A n c, itv x] w fun e w' => ∃ (B : Option Addr) (m d : Nat) (p : List It) (z : Int), e = .returned (.tuple #[.slice B m d, .int .i64 z]) ∧ pushA l x = (p, z) ∧ Its w' B m d p ∧ Below w.heap.size w w' := by
  obtain rfl := I.len
  refine (P.push ⟨I, hc⟩ hn x fx).mono ?_
  rintro e w' ⟨B, d, rfl, L, b⟩
  exact ⟨B, _, d, _, _, rfl, rfl, L.1, b⟩
theorem Prog11.popN (P : Prog11) (I : Its w A n c l) (hc : A = none → c = 0) (hn : n ≤ 1000) : Calls Try.prog 11 #[.slice A n c] w fun e w' => ∃ (B : Option Addr) (m d : Nat) (y : It) (p : List It) (z : Int), e = .returned (.tuple #[itv y, .slice B m d, .int .i64 z]) ∧ popA l = (y, p, z) ∧ Its w' B m d p ∧ Below w.heap.size w w' := by
  obtain rfl := I.len
  refine (P.pop ⟨I, hc⟩ hn).mono ?_
  rintro e w' ⟨B, d, rfl, L, b⟩
  exact ⟨B, _, d, _, _, _, rfl, rfl, L.1, b⟩
theorem Prog11.putN (P : Prog11) (I : Its w A n c l) (hc : A = none → c = 0) (hn : n ≤ 1000) (i : Int) (hi : -9223372036854775808 ≤ i ∧ i ≤ 9223372036854775807) (x : It) (fx : x.Fit) : Calls Try.prog 12 #[.slice A n c, .int .i64 i, itv x] w fun e w' => ∃ (B : Option Addr) (m d : Nat) (p : List It) (z : Int), e = .returned (.tuple #[.slice B m d, .int .i64 z]) ∧ putA l i x = (p, z) ∧ Its w' B m d p ∧ Below w.heap.size w w' := by
  obtain rfl := I.len
  refine (P.put ⟨I, hc⟩ hn i x hi fx).mono ?_
  rintro e w' ⟨B, d, rfl, L, b⟩
  exact ⟨B, _, d, _, _, rfl, rfl, L.1, b⟩
end
/-- A step that comes first, its slot given. -/
theorem take_slot {P : Program} {ops : Array Oper} {Q : Exit → Act → World → Prop} {md : Region.Mode} {i : Nat} {oi : Oper} (d : Tmp) {v : Value} {fuel : Nat} {listed : Array Bool} {a : Act} {w : World} (hi : ops[i]? = some oi) (hd : oi.dst = some d)
    (hs : Region.noSelect ops = true) (hf : Region.free md ops listed i = true) (hr : (Region.ready md ops listed).contains i = true)
    (hQ : ∀ c a w, Q (.panic c) (a.put oi.dst v) w → Q (.panic c) a w) (hy : Yields P ops oi v a)
    (h : wpAny P md ops Q fuel (listed.setIfInBounds i true) (a.put (some d) v) w) : wpAny P md ops Q (fuel + 1) listed a w :=
  wpAny_take hi hs hf hr hQ hy (by rw [hd]; exact h)
/-- Same, of two that read alike. -/
theorem same11 {A B : Option Addr} {n m c d : Nat} {s t : List It} {w : World} (h : Its w A n c s) (h' : Its w B m d t) (e : s = t) (hn : n ≤ 1000 ∨ m ≤ 1000) : Calls Try.prog 16 #[.slice A n c, .slice B m d] w fun e w' => e = .returned (.bool true) ∧ Below w.heap.size w w' := by
  subst e
  obtain rfl : m = n := by rw [← h'.len, h.len]
  exact refSame10_yes h h' (by omega)
/-- Lift of the document, of one that is at the end. -/
theorem liftN {A : Option Addr} {k n c : Nat} {l : List It} {x : It} {w : World} (h : Its w A k c (([] ++ l) ++ [x])) (hl : l.length = n) (hn : n ≤ 1000) : Calls Try.prog 18 #[.slice A k c, .int .i64 (n : Int)] w fun e w' => ∃ (B : Option Addr) (m d : Nat), e = .returned (.slice B m d) ∧ Its w' B m d (pushL l x) ∧ Below w.heap.size w w' := by
  have hm : (([] ++ l) ++ [x]).length = n + 1 := by rw [List.nil_append, List.length_append, hl]; rfl
  obtain rfl : k = n + 1 := by rw [← h.len]; exact hm
  obtain ⟨ad, e, _⟩ := h.at_ 0 (by omega)
  subst e
  refine (lift11_any n h (by omega) (by omega)).mono ?_
  rintro e w' ⟨ad', cap, rfl, I, B⟩
  refine ⟨some ad', n + 1, cap, rfl, ?_, B⟩
  unfold pushL
  rw [hl]
  exact I
/-- Pop of the document, of any list that isn't empty. -/
theorem pop11_all {A : Option Addr} {c : Nat} {l : List It} {w : World} (h : Its w A l.length c l) (h0 : 0 < l.length) (hn : l.length ≤ 100000) : Calls Try.prog 19 #[.slice A l.length c] w fun e w' => ∃ B d, e = .returned (.slice B (popL l).length d) ∧ Its w' B (popL l).length d (popL l) ∧ Below w.heap.size w w' := by
  have hp := popL_len h0
  obtain ⟨ad, e, _⟩ := h.at_ 0 h0
  subst e
  by_cases h1 : l.length = 1
  · have hl : popL l = [] := List.length_eq_zero_iff.1 (by omega)
    rw [h1]
    refine (pop11_one _ c w).mono ?_
    rintro e w' ⟨rfl, rfl⟩
    exact ⟨none, 0, by rw [hl]; rfl, by rw [hl]; exact Its.none_ _ _ _ rfl (by decide), Below.refl _ _⟩
  · refine (pop11_any h (by omega) hn).mono ?_
    rintro e w' ⟨ad', cap, rfl, I, B⟩
    rw [hp]
    exact ⟨some ad', cap, rfl, I, B⟩
theorem pop11_n {A : Option Addr} {n c : Nat} {l : List It} {w : World} (h : Its w A n c l) (h0 : 0 < n) (hn : n ≤ 100000) : Calls Try.prog 19 #[.slice A n c] w fun e w' => ∃ (B : Option Addr) (m d : Nat), e = .returned (.slice B m d) ∧ Its w' B m d (popL l) ∧ Below w.heap.size w w' := by
  obtain rfl := h.len
  refine (pop11_all h h0 hn).mono ?_
  rintro e w' ⟨B, d, rfl, I, b⟩
  exact ⟨B, _, d, rfl, I, b⟩
theorem put11_n {A : Option Addr} {n c i : Nat} {l : List It} {x : It} {w : World} (h : Its w A n c l) (hi : i < n) (hn : n ≤ 100000) (fx : x.Fit) : Calls Try.prog 20 #[.slice A n c, .int .i64 (i : Int), itv x] w fun e w' => ∃ (B : Option Addr) (m d : Nat), e = .returned (.slice B m d) ∧ Its w' B m d (putL l i x) ∧ Below w.heap.size w w' := by
  obtain ⟨ad, e, _⟩ := h.at_ 0 (by rw [h.len]; omega)
  subst e
  refine (put11_any h hi hn fx).mono ?_
  rintro e w' ⟨ad', cap, rfl, I, B⟩
  exact ⟨some ad', n, cap, rfl, I, B⟩
end Go.Proofs.Ytnkhgkpijfohkaa
