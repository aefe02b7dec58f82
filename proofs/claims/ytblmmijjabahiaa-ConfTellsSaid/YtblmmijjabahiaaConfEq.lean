/-
  Two rates, and two arrays of eight numbers, are equal where all their numbers are; at this program. No condition.
-/
import Derived.Test.YtblmmijjabahiaaChecked
import Derived.WalkKit
import Derived.ProofKit
import Derived.Laws.StructEq
namespace Go.Proofs.Ytblmmijjabahiaa.Conf
open Go.RowKit

theorem eq_rate (x y x' y' : Int) (w : World) : (Op.equalIn 10000 50 (.agg #[.int .i64 x, .int .i64 y]) (.agg #[.int .i64 x', .int .i64 y'])).run Try.prog w = .ok (x == x' && y == y') w := by
  rw [run_equalIn_agg w 9999 _ _ _ (by kernel_rfl) (by kernel_rfl)]
  have e : ∀ (a b : Int) (w : World), (Op.equalIn 9999 3 (.int .i64 a) (.int .i64 b)).run Try.prog w = .ok (a == b) w := fun a b w => run_equalIn_int w 9998 _ _ _ a b Try.underlying3
  cases h : (x == x')
  · simp [Program.fieldsOf, Try.underlying50, Op.eqFields, part, isAgg, run_underlying Try.underlying3, e, h]
  · by_cases k : y = y'
    · simp [Program.fieldsOf, Try.underlying50, Op.eqFields, part, isAgg, run_underlying Try.underlying3, e, h, k]
    · simp [Program.fieldsOf, Try.underlying50, Op.eqFields, part, isAgg, run_underlying Try.underlying3, e, h, k]
theorem eql_rate (x y x' y' : Int) (w : World) : (binOp .eql 50 (.agg #[.int .i64 x, .int .i64 y]) (.agg #[.int .i64 x', .int .i64 y'])).run Try.prog w = .ok (.bool (x == x' && y == y')) w := by
  rw [run_eql_struct, eq_rate]; rfl
theorem neq_rate (x y x' y' : Int) (w : World) : (binOp .neq 50 (.agg #[.int .i64 x, .int .i64 y]) (.agg #[.int .i64 x', .int .i64 y'])).run Try.prog w = .ok (.bool (!(x == x' && y == y'))) w := by
  rw [run_neq_struct, eq_rate]; rfl

theorem eql_eight (a b c d e f g h a' b' c' d' e' f' g' h' : Int) (w : World) :
    (binOp .eql 101 (.agg #[.int .i64 a, .int .i64 b, .int .i64 c, .int .i64 d, .int .i64 e, .int .i64 f, .int .i64 g, .int .i64 h]) (.agg #[.int .i64 a', .int .i64 b', .int .i64 c', .int .i64 d', .int .i64 e', .int .i64 f', .int .i64 g', .int .i64 h'])).run Try.prog w =
      .ok (.bool (a == a' && (b == b' && (c == c' && (d == d' && (e == e' && (f == f' && (g == g' && h == h')))))))) w := by
  have one : ∀ w, (sizeOf 3).run Try.prog w = .ok 1 w := fun w => by kernel_rfl
  have two : ∀ (x y : Int) (w : World), (Op.equalIn 9999 3 (.int .i64 x) (.int .i64 y)).run Try.prog w = .ok (x == y) w := fun x y w => run_equalIn_int w 9998 _ _ _ x y Try.underlying3
  rw [run_eql_struct, Op.equalIn]
  simp only [Sem.run_bind, run_underlying Try.underlying101, Result.andThen_ok, one, Std.Legacy.Range.forIn_eq_forIn_range']
  rw [show List.range' [:8].start [:8].size [:8].step = [0, 1, 2, 3, 4, 5, 6, 7] from rfl]
  cases ha : (a == a')
  · simp [part, isAgg, run_underlying Try.underlying3, two, ha]
  · skip
    cases hb : (b == b')
    · simp [part, isAgg, run_underlying Try.underlying3, two, ha, hb]
    · skip
      cases hc : (c == c')
      · simp [part, isAgg, run_underlying Try.underlying3, two, ha, hb, hc]
      · skip
        cases hd : (d == d')
        · simp [part, isAgg, run_underlying Try.underlying3, two, ha, hb, hc, hd]
        · skip
          cases he : (e == e')
          · simp [part, isAgg, run_underlying Try.underlying3, two, ha, hb, hc, hd, he]
          · skip
            cases hf : (f == f')
            · simp [part, isAgg, run_underlying Try.underlying3, two, ha, hb, hc, hd, he, hf]
            · skip
              cases hg : (g == g')
              · simp [part, isAgg, run_underlying Try.underlying3, two, ha, hb, hc, hd, he, hf, hg]
              · skip
                cases hh : (h == h')
                · simp [part, isAgg, run_underlying Try.underlying3, two, ha, hb, hc, hd, he, hf, hg, hh]
                · simp [part, isAgg, run_underlying Try.underlying3, two, ha, hb, hc, hd, he, hf, hg, hh]
end Go.Proofs.Ytblmmijjabahiaa.Conf
