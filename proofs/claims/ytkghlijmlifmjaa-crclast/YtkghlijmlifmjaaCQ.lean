/- Four bytes that are compared. -/
import Derived.Test.YtkghlijmlifmjaaSM
import Derived.ChangeKeysEq
import Derived.Laws.StructEq
namespace Go.Proofs.Ytkghlijmlifmjaa
open Go.RowKit
set_option maxRecDepth 100000
theorem info_u8 : (Try.prog.info? 5).map (fun i => (i.zero, i.size, i.bytes)) = some (some (.int .u8 0), 1, 1) := by kernel_rfl
theorem part4 (xs : Array Value) (i : Nat) (k : Int) (h : xs[i]? = some (.int .u8 k)) (w : World) : (part 5 xs (i * Try.prog.cellsOf 5)).run Try.prog w = .ok (.int .u8 k) w := by
  have hc : Try.prog.cellsOf 5 = 1 := by kernel_rfl
  have h' : xs[i * 1]? = some (.int .u8 k) := by rw [Nat.mul_one]; exact h
  rw [hc]
  simp only [Nat.mul_one] at h' ⊢
  simp [part, isAgg, run_underlying Try.underlying5, h']
theorem eqItem (d : Nat) (xs ys : Array Value) (i : Nat) (is : List Nat) (a b : Int) (ha : xs[i]? = some (.int .u8 a)) (hb : ys[i]? = some (.int .u8 b)) (w : World) :
    (Op.eqItems (d + 1) 5 (Try.prog.cellsOf 5) xs ys (i :: is)).run Try.prog w = if (a == b) = true then (Op.eqItems (d + 1) 5 (Try.prog.cellsOf 5) xs ys is).run Try.prog w else .ok false w := by
  have e : (Op.equalIn (d + 1) 5 (.int .u8 a) (.int .u8 b)).run Try.prog w = .ok (a == b) w := run_equalIn_int w d _ .u8 .u8 a b Try.underlying5
  rw [Op.eqItems]
  simp only [Sem.run_bind, part4 xs i a ha, part4 ys i b hb, e, Result.andThen_ok]
  cases a == b <;> simp
theorem eq4 (d : Nat) (x0 x1 x2 x3 y0 y1 y2 y3 : Int) (w : World) :
    (Op.equalIn (d + 2) 34 (.agg #[.int .u8 x0, .int .u8 x1, .int .u8 x2, .int .u8 x3]) (.agg #[.int .u8 y0, .int .u8 y1, .int .u8 y2, .int .u8 y3])).run Try.prog w =
      .ok ((x0 == y0) && ((x1 == y1) && ((x2 == y2) && (x3 == y3)))) w := by
  obtain ⟨i, hi, _⟩ := info_parts info_u8
  rw [run_equalIn_array w (d + 1) _ _ Try.underlying34 hi, show List.range 4 = [0, 1, 2, 3] from rfl,
    eqItem d _ _ 0 _ x0 y0 rfl rfl, eqItem d _ _ 1 _ x1 y1 rfl rfl, eqItem d _ _ 2 _ x2 y2 rfl rfl, eqItem d _ _ 3 _ x3 y3 rfl rfl]
  cases x0 == y0 <;> cases x1 == y1 <;> cases x2 == y2 <;> cases x3 == y3 <;> simp [Op.eqItems]
end Go.Proofs.Ytkghlijmlifmjaa
