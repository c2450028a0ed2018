/- Steps of regions that draw (append); what the law HeapKeeps keeps. -/
import Derived.Test.YtnkhgkpijfohkaaJ09
import Derived.Deep.RegionLaw
import Derived.Laws.AppendOwn
import Derived.Laws.OwnMore
namespace Go.Proofs.Ytnkhgkpijfohkaa
open Go.RowKit
set_option linter.unusedVariables false
set_option linter.unusedSimpArgs false
set_option maxHeartbeats 4000000
set_option maxRecDepth 100000
theorem Rw.alloc {b : Nat} {v : Value} {s : List It} {W : World} (h : Rw b v s W) (o : Obj) : Rw b v s (W.alloc o) := h.next ((Below.refl _ _).alloc (Nat.le_refl _) o)
theorem Rw.made {b : Nat} {W : World} (hb : b ≤ W.heap.size) : Rw b (.slice (some ⟨W.heap.size, 0, none⟩) 0 0) [] (W.alloc (.cells #[] 25)) :=
  ⟨World.ownsRow_made W #[] 0 hb (Nat.zero_le _) rfl, fun x hx => absurd hx (by simp)⟩
theorem Lst.to {W W' : World} {A : Option Addr} {c : Nat} {l : List It} (h : Lst W A c l) (hb : Below W.heap.size W W') : Lst W' A c l := ⟨h.1.next hb, h.2⟩
theorem Lst.alloc {W : World} {A : Option Addr} {c : Nat} {l : List It} (h : Lst W A c l) (o : Obj) : Lst (W.alloc o) A c l := ⟨h.1.alloc o, h.2⟩
theorem Lst.drew {W : World} {A : Option Addr} {c : Nat} {l : List It} (h : Lst W A c l) : Lst W.drew A c l := ⟨h.1.drew, h.2⟩
theorem Rw.lst {b : Nat} {v : Value} {s : List It} {W : World} (h : Rw b v s W) : ∃ A c, v = .slice A s.length c ∧ Lst W A c s := by
  obtain ⟨A, c, e, I, hn, _⟩ := h.slice
  exact ⟨A, c, e, I, hn⟩
/-- append, as one step of a region that draws. -/
theorem step_appL {ops : Array Oper} {o : Oper} {a : Act} {W : World} {K : Act → World → Prop} {Q : Exit → Act → World → Prop} {E : Prop} (hgd : Region.wanted o (yielded ops a.tmps) = true) (s x : Operand)
    (ho : o.op = .call { callee := .builtin .append, args := #[s, x], argTypes := #[22, 22] }) {b : Nat} {v : Value} {l m : List It} (hs : a.eval s = v)
    {A : Option Addr} {n c : Nat} (hx : a.eval x = .slice A n c) (R : Rw b v l W) (hb : b ≤ W.heap.size) (I : Its W A n c m) (hc : A = none → c = 0) (small : l.length + m.length ≤ 1000000)
    (hK : ∀ v' W', Rw b v' (l ++ m) W' → Below b W W' → K (a.put o.dst v') W') : if Region.wanted o (yielded ops a.tmps) = true then Oper.wp Try.prog o a W K Q else E := by
  rw [if_pos hgd]
  have hi : (Try.prog.info? 25).map (fun i => (i.zero, i.size, i.bytes)) = some (some (.agg #[.string ⟨#[]⟩, .int .u64 0, .int .u64 0]), 3, 32) := by kernel_rfl
  cases hq : Try.prog.info? 25 with
  | none => simp [hq] at hi
  | some i =>
    obtain ⟨h1, h2, h3⟩ : i.zero = some (.agg #[.string ⟨#[]⟩, .int .u64 0, .int .u64 0]) ∧ i.size = 3 ∧ i.bytes = 32 := by simpa [hq] using hi
    have fit : ∀ y ∈ l ++ m, y.Fit := fun y hy => (List.mem_append.1 hy).elim (R.fit y) (I.fit y)
    have hl := I.len
    cases A with
    | none =>
      obtain rfl := hc rfl
      have hm : m = [] := by
        cases m with
        | nil => rfl
        | cons y r => obtain ⟨_, e, _⟩ := I.at_ 0 (by simp); exact absurd e (by simp)
      subst hm
      have hn : n = 0 := by have := I.len; simpa using this.symm
      subst hn
      have hrun := run_append_owned_none (P := Try.prog) (w := W) b 22 o.type 25 i 3 Try.underlying22 hq v l.length (icells l) R.own
      unfold Oper.wp
      simp [execOp, ho, resolve, invoke, builtin, hs, hx, hrun, Result.andThen]
      exact hK v W (by rw [List.append_nil]; exact R) (Below.refl _ _)
    | some ad =>
      obtain ⟨v', W', hrun, r1, r2, _⟩ := run_append_own (P := Try.prog) W b 22 o.type 25 i _ 3 32 Try.underlying22 hq h1 h2 h3 rfl (by decide) v l.length (icells l) R.own ad n c (icells m) (by rw [icells_len, I.len]) (I.cells rfl) (fun u hu => icells_one hu)
        (by unfold maxLen; omega) (by omega) hb
      unfold Oper.wp
      simp [execOp, ho, resolve, invoke, builtin, hs, hx, hrun, Result.andThen]
      refine hK v' W' ⟨?_, fit⟩ ((Below.refl b W).grown r2 hb (fun k hk => (R.own.lt k hk).1))
      rw [List.length_append, hl, icells_app]; exact r1
/-- What the heap and all that are there have in common. -/
structure KInv (h a : List It) : Prop where
  right : rightB h = true
  perm : h.Perm a
  sorted : Sorted a
theorem KInv.start : KInv [] [] := ⟨rightB_nil, .refl _, .nil⟩
theorem KInv.len {h a : List It} (k : KInv h a) : h.length = a.length := k.perm.length_eq
theorem KInv.may {h a : List It} (k : KInv h a) : a.all mayB = true := List.all_eq_true.2 fun x hx => List.all_eq_true.1 (rightB_iff.1 k.right).1 x (k.perm.mem_iff.2 hx)
theorem KInv.mayW {h a : List It} (k : KInv h a) : May a := fun x hx => rightB_may k.right x (k.perm.mem_iff.2 hx)
theorem KInv.fit {h a : List It} (k : KInv h a) (f : ∀ x ∈ h, x.Fit) : ∀ x ∈ a, x.Fit := fun x hx => f x (k.perm.mem_iff.2 hx)
theorem KInv.push {h a s : List It} {x : It} (k : KInv h a) (hx : mayB x = true) (hs : IsSort (a ++ [x]) s) : KInv (pushL h x) s :=
  ⟨rightB_push k.right hx, (pushL_perm h x).trans ((k.perm.append_right [x]).trans hs.perm.symm), hs.sorted⟩
theorem without_sub : ∀ (l : List It) (x : It), (without l x).Sublist l
  | [], _ => .slnil
  | y :: l, x => by
    rw [without]
    split
    · exact List.sublist_cons_self y l
    · exact (without_sub l x).cons_cons y
theorem KInv.top {h a : List It} (k : KInv h a) (h0 : 0 < h.length) : nth h 0 ∈ a ∧ cmpI (nth h 0) (nth a (a.length - 1)) = 0 := by
  have ha := k.len
  have m : nth h 0 ∈ a := k.perm.mem_iff.1 (nth_mem h0)
  refine ⟨m, ?_⟩
  have hl : a.length - 1 < a.length := by omega
  have l : nth a (a.length - 1) ∈ h := k.perm.mem_iff.2 (nth_mem hl)
  obtain ⟨i, hi, e⟩ := List.mem_iff_getElem.1 l
  have c1 := (rightB_iff.1 k.right).2.top (rightB_may k.right) i hi
  rw [nth_eq hi, e] at c1
  obtain ⟨j, hj, e2⟩ := List.mem_iff_getElem.1 m
  have c2 : cmpI (nth h 0) (nth a (a.length - 1)) ≤ 0 := by
    rw [nth_eq hl, ← e2]
    by_cases q : j = a.length - 1
    · subst q; rw [cmpI_self]; exact Int.le_refl _
    · exact List.pairwise_iff_getElem.1 k.sorted j (a.length - 1) hj hl (by omega)
  have := cmpI_anti (nth h 0) (nth a (a.length - 1))
  omega
theorem KInv.pop {h a : List It} (k : KInv h a) (h0 : 0 < h.length) : KInv (popL h) (without a (nth h 0)) :=
  ⟨rightB_pop k.right h0, (without_rest (k.perm.symm.trans (popL_perm h0).symm)).symm, k.sorted.sublist (without_sub a (nth h 0))⟩
theorem KInv.put {h a s : List It} {x : It} {i : Nat} (k : KInv h a) (hx : mayB x = true) (hi : i < h.length) (hs : IsSort (without a (nth h i) ++ [x]) s) : KInv (putL h i x) s := by
  refine ⟨rightB_put k.right hx hi, (putL_perm hi).trans (.trans ?_ hs.perm.symm), hs.sorted⟩
  have e1 : h = h.take i ++ nth h i :: h.drop (i + 1) := by rw [nth_eq hi, ← List.drop_eq_getElem_cons hi, List.take_append_drop]
  have p1 : h.Perm (nth h i :: (h.take i ++ h.drop (i + 1))) := by
    refine (List.Perm.of_eq e1).trans List.perm_middle
  have p2 : (h.set i x).Perm (x :: (h.take i ++ h.drop (i + 1))) := by
    rw [List.set_eq_take_append_cons_drop, if_pos hi]
    exact List.perm_middle
  have p3 := without_rest (k.perm.symm.trans p1)
  exact p2.trans ((List.Perm.cons x p3.symm).trans (List.perm_append_comm (l₁ := [x])))
theorem without_len' {h a : List It} (k : KInv h a) {i : Nat} (hi : i < h.length) : (without a (nth h i)).length = a.length - 1 := without_len (k.perm.mem_iff.1 (nth_mem hi))
end Go.Proofs.Ytnkhgkpijfohkaa
