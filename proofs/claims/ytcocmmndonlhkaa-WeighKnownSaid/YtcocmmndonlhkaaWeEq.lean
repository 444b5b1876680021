/-
  Two arrays of two elements held against one another.
-/
import Derived.Test.YtcocmmndonlhkaaWeSame
import Derived.ChangeKeysEq
namespace Go.Proofs.Ytcocmmndonlhkaa
open Go.RowKit Go.Gz Go.Sort

theorem cells_el : Try.prog.cellsOf 25 = 3 := by kernel_rfl
theorem part_el0 (a b c d e f : Int) (w : World) : (part 25 #[.int .i64 a, .int .i64 b, .int .i64 c, .int .i64 d, .int .i64 e, .int .i64 f] 0).run Try.prog w = .ok (.agg #[.int .i64 a, .int .i64 b, .int .i64 c]) w := by kernel_rfl
theorem part_el3 (a b c d e f : Int) (w : World) : (part 25 #[.int .i64 a, .int .i64 b, .int .i64 c, .int .i64 d, .int .i64 e, .int .i64 f] 3).run Try.prog w = .ok (.agg #[.int .i64 d, .int .i64 e, .int .i64 f]) w := by kernel_rfl
theorem eq_el (n : Nat) (a b c a' b' c' : Int) (w : World) : (Op.equalIn (n + 2) 25 (.agg #[.int .i64 a, .int .i64 b, .int .i64 c]) (.agg #[.int .i64 a', .int .i64 b', .int .i64 c'])).run Try.prog w = .ok (a == a' && (b == b' && c == c')) w := by
  by_cases h1 : a = a'
  · by_cases h2 : b = b'
    · by_cases h3 : c = c'
      · simp [go_sem, h1, h2, h3]
      · simp [go_sem, h1, h2, h3]
    · simp [go_sem, h1, h2]
  · simp [go_sem, h1]
set_option maxRecDepth 100000 in
theorem eq_arrN (n : Nat) (a b c d e f a' b' c' d' e' f' : Int) (w : World) : (Op.equalIn (n + 2 + 1) 37 (.agg #[.int .i64 a, .int .i64 b, .int .i64 c, .int .i64 d, .int .i64 e, .int .i64 f]) (.agg #[.int .i64 a', .int .i64 b', .int .i64 c', .int .i64 d', .int .i64 e', .int .i64 f'])).run Try.prog w = .ok ((a == a' && (b == b' && c == c')) && (d == d' && (e == e' && f == f'))) w := by
  obtain ⟨i0, hi, hz0, hz1, hz2⟩ := info_parts info_el
  rw [run_equalIn_array w (n + 2) _ _ Try.underlying37 hi, cells_el, show List.range 2 = [0, 1] from rfl]
  simp only [Op.eqItems, Sem.run_bind, Nat.zero_mul, Nat.one_mul, part_el0, Result.andThen_ok, eq_el]
  cases h : (a == a' && (b == b' && c == c'))
  · simp
  · simp [eq_el, part_el3]
    cases h2 : (d == d' && (e == e' && f == f')) <;> simpa using h2
set_option maxRecDepth 100000 in
theorem eq_arr (a b c d e f a' b' c' d' e' f' : Int) (w : World) : (Op.equalIn 10000 37 (.agg #[.int .i64 a, .int .i64 b, .int .i64 c, .int .i64 d, .int .i64 e, .int .i64 f]) (.agg #[.int .i64 a', .int .i64 b', .int .i64 c', .int .i64 d', .int .i64 e', .int .i64 f'])).run Try.prog w = .ok ((a == a' && (b == b' && c == c')) && (d == d' && (e == e' && f == f'))) w := eq_arrN 9997 a b c d e f a' b' c' d' e' f' w
end Go.Proofs.Ytcocmmndonlhkaa
