/-
  WORDS FOR [7]int: two of them compared; the example of layer 5. By the verifier.
-/
import Derived.Test.YthdagjlgfffpbaaGreatGCnt
import Derived.ChangeKeysEq
import Derived.Laws.StructEq
set_option linter.unusedVariables false
namespace Go.Proofs.YthdagjlgfffpbaaGreat
open Go.RowKit

theorem cells_int : Tryz.prog.cellsOf 3 = 1 := by kernel_rfl

theorem items_int (d : Nat) (xs ys : Array Value) (w : World) (i : Nat) (is : List Nat) (a b : Int) (ha : xs[i]? = some (.int .i64 a)) (hb : ys[i]? = some (.int .i64 b)) :
    (Op.eqItems (d + 1) 3 1 xs ys (i :: is)).run Tryz.prog w = if (a == b) = true then (Op.eqItems (d + 1) 3 1 xs ys is).run Tryz.prog w else .ok false w := by
  have px : (part 3 xs (i * 1)).run Tryz.prog w = .ok (.int .i64 a) w := by
    simp [part, isAgg, run_underlying Tryz.underlying3, ha]
  have py : (part 3 ys (i * 1)).run Tryz.prog w = .ok (.int .i64 b) w := by
    simp [part, isAgg, run_underlying Tryz.underlying3, hb]
  have pe := run_equalIn_int (P := Tryz.prog) w d 3 .i64 .i64 a b Tryz.underlying3
  simp only [Op.eqItems, Sem.run_bind, px, py, pe, Result.andThen_ok]
  cases h : (a == b) with
  | true => simp
  | false => simp

theorem eql7 (x0 x1 x2 x3 x4 x5 x6 y0 y1 y2 y3 y4 y5 y6 : Int) (w : World) :
    (binOp .eql 68 (.agg #[.int .i64 x0, .int .i64 x1, .int .i64 x2, .int .i64 x3, .int .i64 x4, .int .i64 x5, .int .i64 x6]) (.agg #[.int .i64 y0, .int .i64 y1, .int .i64 y2, .int .i64 y3, .int .i64 y4, .int .i64 y5, .int .i64 y6])).run Tryz.prog w =
      .ok (.bool (x0 == y0 && (x1 == y1 && (x2 == y2 && (x3 == y3 && (x4 == y4 && (x5 == y5 && x6 == y6))))))) w := by
  have hi : ∃ i, Tryz.prog.info? 3 = some i := by
    have : (Tryz.prog.info? 3).isSome = true := by kernel_rfl
    exact Option.isSome_iff_exists.1 this
  obtain ⟨i, hi⟩ := hi
  rw [run_eql_struct, show (10000 : Nat) = 9999 + 1 from rfl, run_equalIn_array w 9999 _ _ Tryz.underlying68 hi, cells_int, show List.range 7 = [0, 1, 2, 3, 4, 5, 6] from rfl, show (9999 : Nat) = 9998 + 1 from rfl]
  rw [items_int 9998 _ _ w 0 _ x0 y0 rfl rfl, items_int 9998 _ _ w 1 _ x1 y1 rfl rfl, items_int 9998 _ _ w 2 _ x2 y2 rfl rfl, items_int 9998 _ _ w 3 _ x3 y3 rfl rfl, items_int 9998 _ _ w 4 _ x4 y4 rfl rfl, items_int 9998 _ _ w 5 _ x5 y5 rfl rfl, items_int 9998 _ _ w 6 _ x6 y6 rfl rfl]
  have h0 : (Op.eqItems (9998 + 1) 3 1 #[.int .i64 x0, .int .i64 x1, .int .i64 x2, .int .i64 x3, .int .i64 x4, .int .i64 x5, .int .i64 x6] #[.int .i64 y0, .int .i64 y1, .int .i64 y2, .int .i64 y3, .int .i64 y4, .int .i64 y5, .int .i64 y6] []).run Tryz.prog w = .ok true w := rfl
  rw [h0]
  cases (x0 == y0) <;> cases (x1 == y1) <;> cases (x2 == y2) <;> cases (x3 == y3) <;> cases (x4 == y4) <;> cases (x5 == y5) <;> cases (x6 == y6) <;> rfl

end Go.Proofs.YthdagjlgfffpbaaGreat
