/- Steps of regions that draw, with what each leaves as it was. -/
import Derived.Test.YtnkhgkpijfohkaaIA
namespace Go.Proofs.Ytnkhgkpijfohkaa
open Go.RowKit
set_option linter.unusedVariables false
set_option linter.unusedSimpArgs false
set_option maxHeartbeats 4000000
set_option maxRecDepth 100000
theorem add_block (ad : Addr) (k : Nat) : (ad.add k).block = ad.block := by unfold Addr.add; split <;> rfl
theorem Its.grow {W W' : World} {g n c : Nat} {l : List It} {row : Option Nat} (h : Its W (some ⟨g, 0, none⟩) n c l) (hg : W.grownBy W' row) (hr : some g ≠ row) : Its W' (some ⟨g, 0, none⟩) n c l :=
  ⟨h.len, h.cap, h.top, fun j hj => by
    obtain ⟨ad, e, h0, h1, h2⟩ := h.at_ j hj
    obtain rfl := Option.some.inj e
    exact ⟨_, rfl, hg.cell h0 (by rw [add_block]; exact hr), hg.cell h1 (by rw [add_block]; exact hr), hg.cell h2 (by rw [add_block]; exact hr)⟩, h.fit⟩
theorem Rw.madeA (W : World) : Rw W.heap.size (.slice (some ⟨W.heap.size, 0, none⟩) 0 0) [] (W.alloc (.cells #[] 25)) := Rw.made (Nat.le_refl _)
theorem Rw.madeB (W : World) (o : Obj) : Rw W.heap.size (.slice (some ⟨W.heap.size + 1, 0, none⟩) 0 0) [] ((W.alloc o).alloc (.cells #[] 25)) := by
  have h := Rw.made (b := W.heap.size) (W := W.alloc o) (by rw [World.size_alloc]; omega)
  rw [World.size_alloc] at h
  exact h
theorem Its.newB (W : World) (o : Obj) (x : It) (fx : x.Fit) (t : TypeId) : Its ((W.alloc o).alloc (.cells #[.string x.k, .int .u64 (x.u : Int), .int .u64 (x.w : Int)] t)) (some ⟨W.heap.size + 1, 0, none⟩) 1 1 [x] := by
  have h := Its.new (W.alloc o) x fx t
  rw [World.size_alloc] at h
  exact h
theorem own_ne {g k : Nat} (h : g ≠ k) (n c : Nat) : some g ≠ Value.ownBlock (.slice (some ⟨k, 0, none⟩) n c) := by
  intro e
  simp only [Value.ownBlock, Option.some.injEq] at e
  exact h e
theorem Rw.itn {b : Nat} {v : Value} {s : List It} {W : World} (h : Rw b v s W) : ∃ A n c, v = .slice A n c ∧ Its W A n c s ∧ (A = none → c = 0) := by
  obtain ⟨A, c, e, I, hn, _⟩ := h.slice
  exact ⟨A, _, c, e, I, hn⟩
theorem Its.lst {W : World} {A : Option Addr} {n c : Nat} {l : List It} (h : Its W A n c l) (hc : A = none → c = 0) : Lst W A c l := by
  obtain rfl := h.len; exact ⟨h, hc⟩
theorem grown_refl (W : World) (r : Option Nat) : W.grownBy W r := ⟨rfl, rfl, rfl, Nat.le_refl _, fun _ _ _ => rfl⟩
/-- append, as one step of a region that draws; it turns its row's block at most. -/
theorem step_appG {ops : Array Oper} {o : Oper} {a : Act} {W : World} {K : Act → World → Prop} {Q : Exit → Act → World → Prop} {E : Prop} (hgd : Region.wanted o (yielded ops a.tmps) = true) (s x : Operand)
    (ho : o.op = .call { callee := .builtin .append, args := #[s, x], argTypes := #[22, 22] }) {b : Nat} {v : Value} {l m : List It} (hs : a.eval s = v)
    {A : Option Addr} {n c : Nat} (hx : a.eval x = .slice A n c) (R : Rw b v l W) (hb : b ≤ W.heap.size) (I : Its W A n c m) (hc : A = none → c = 0) (small : l.length + m.length ≤ 1000000)
    (hK : ∀ v' W', Rw b v' (l ++ m) W' → W.grownBy W' v.ownBlock → Below b W W' → K (a.put o.dst v') W') : if Region.wanted o (yielded ops a.tmps) = true then Oper.wp Try.prog o a W K Q else E := by
  rw [if_pos hgd]
  have hi : (Try.prog.info? 25).map (fun i => (i.zero, i.size, i.bytes)) = some (some (.agg #[.string ⟨#[]⟩, .int .u64 0, .int .u64 0]), 3, 32) := by kernel_rfl
  cases hq : Try.prog.info? 25 with
  | none => simp [hq] at hi
  | some i =>
    obtain ⟨h1, h2, h3⟩ : i.zero = some (.agg #[.string ⟨#[]⟩, .int .u64 0, .int .u64 0]) ∧ i.size = 3 ∧ i.bytes = 32 := by simpa [hq] using hi
    have fit : ∀ y ∈ l ++ m, y.Fit := fun y hy => (List.mem_append.1 hy).elim (R.fit y) (I.fit y)
    have hl := I.len
    cases A with
    | none =>
      obtain rfl := hc rfl
      have hm : m = [] := by
        cases m with
        | nil => rfl
        | cons y r => obtain ⟨_, e, _⟩ := I.at_ 0 (by simp); exact absurd e (by simp)
      subst hm
      have hn : n = 0 := by have := I.len; simpa using this.symm
      subst hn
      have hrun := run_append_owned_none (P := Try.prog) (w := W) b 22 o.type 25 i 3 Try.underlying22 hq v l.length (icells l) R.own
      unfold Oper.wp
      simp [execOp, ho, resolve, invoke, builtin, hs, hx, hrun, Result.andThen]
      exact hK v W (by rw [List.append_nil]; exact R) (grown_refl _ _) (Below.refl _ _)
    | some ad =>
      obtain ⟨v', W', hrun, r1, r2, _⟩ := run_append_own (P := Try.prog) W b 22 o.type 25 i _ 3 32 Try.underlying22 hq h1 h2 h3 rfl (by decide) v l.length (icells l) R.own ad n c (icells m) (by rw [icells_len, I.len]) (I.cells rfl) (fun u hu => icells_one hu)
        (by unfold maxLen; omega) (by omega) hb
      unfold Oper.wp
      simp [execOp, ho, resolve, invoke, builtin, hs, hx, hrun, Result.andThen]
      refine hK v' W' ⟨?_, fit⟩ r2 ((Below.refl b W).grown r2 hb (fun k hk => (R.own.lt k hk).1))
      rw [List.length_append, hl, icells_app]; exact r1
end Go.Proofs.Ytnkhgkpijfohkaa
