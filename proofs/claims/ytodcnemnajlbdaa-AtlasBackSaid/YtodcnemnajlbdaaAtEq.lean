/-
  Layer atlas: two shards compared.
-/
import Derived.Test.YtodcnemnajlbdaaAtRows
import Derived.Laws.StructEq
namespace Go.Proofs.Ytodcnemnajlbdaa
open Go.RowKit Go.Gz

theorem at_toList_inj {a b : ByteArray} (h : a.toList = b.toList) : a = b := by
  rw [ByteArray.toList_eq, ByteArray.toList_eq] at h
  cases a; cases b
  simp only [ByteArray.mk.injEq]
  exact Array.toList_inj.1 h
theorem eq_span (n : Nat) (a b a' b' : ByteArray) (w : World) : (Op.equalIn (n + 2) 38 (.agg #[.string a, .string b]) (.agg #[.string a', .string b'])).run Try.prog w = .ok (decide ((⟨a, b⟩ : SP) = ⟨a', b'⟩)) w := by
  by_cases h1 : a = a'
  · by_cases h2 : b = b'
    · simp [go_sem, h1, h2]
    · have e2 : ¬ b.toList = b'.toList := fun h => h2 (at_toList_inj h)
      simp [go_sem, h1, h2, e2]
  · have e1 : ¬ a.toList = a'.toList := fun h => h1 (at_toList_inj h)
    simp [go_sem, h1, e1]
theorem eq_sd (n : Nat) (x y : Sd) (w : World) : (Op.equalIn (n + 3) 40 (.agg #[.string x.sp.f, .string x.sp.t, .int .i64 x.n, .int .i64 x.e]) (.agg #[.string y.sp.f, .string y.sp.t, .int .i64 y.n, .int .i64 y.e])).run Try.prog w = .ok (decide (x = y)) w := by
  obtain ⟨⟨a, b⟩, c, d⟩ := x
  obtain ⟨⟨a', b'⟩, c', d'⟩ := y
  by_cases h1 : a = a'
  · by_cases h2 : b = b'
    · by_cases h3 : c = c'
      · by_cases h4 : d = d'
        · simp [go_sem, h1, h2, h3, h4]
        · simp [go_sem, h1, h2, h3, h4]
      · simp [go_sem, h1, h2, h3]
    · have e2 : ¬ b.toList = b'.toList := fun h => h2 (at_toList_inj h)
      simp [go_sem, h1, h2, e2]
  · have e1 : ¬ a.toList = a'.toList := fun h => h1 (at_toList_inj h)
    simp [go_sem, h1, e1]
end Go.Proofs.Ytodcnemnajlbdaa
