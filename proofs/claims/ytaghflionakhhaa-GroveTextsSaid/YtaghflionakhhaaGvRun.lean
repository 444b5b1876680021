/-
  Layer grove, pure half: runs whose steps are all of a kind.
-/
import Derived.Test.YtaghflionakhhaaGvOrd
namespace Go.Proofs.Ytaghflionakhhaa
variable {κ ν : Type}

/-- each step of the run is one of A. -/
def RunOk {σ : Type} (f : σ → κ → ν → σ × Bool) (A : σ → κ × ν → Prop) : σ → List (κ × ν) → Prop
  | _, [] => True
  | s, p :: ps => A s p ∧ ((f s p.1 p.2).2 = true → RunOk f A (f s p.1 p.2).1 ps)
theorem runOk_append {σ : Type} {f : σ → κ → ν → σ × Bool} {A : σ → κ × ν → Prop} {s : σ} {a b : List (κ × ν)} (h : RunOk f A s (a ++ b)) : RunOk f A s a ∧ ((runS f s a).2 = true → RunOk f A (runS f s a).1 b) := by
  induction a generalizing s with
  | nil => exact ⟨trivial, fun _ => h⟩
  | cons p ps ih =>
    obtain ⟨h1, h2⟩ := h
    simp only [runS]
    by_cases hb : (f s p.1 p.2).2 = true
    · obtain ⟨i1, i2⟩ := ih (h2 hb)
      rw [if_pos hb]
      exact ⟨⟨h1, fun _ => i1⟩, i2⟩
    · rw [if_neg hb]
      exact ⟨⟨h1, fun e => absurd e hb⟩, fun e => by cases e⟩
theorem runOk_all {σ : Type} {f : σ → κ → ν → σ × Bool} {A : σ → κ × ν → Prop} (l : List (κ × ν)) (h : ∀ s, ∀ p ∈ l, A s p) (s : σ) : RunOk f A s l := by
  induction l generalizing s with
  | nil => trivial
  | cons p ps ih => exact ⟨h s p (List.mem_cons_self ..), fun _ => ih (fun s q hq => h s q (List.mem_cons_of_mem _ hq)) _⟩
end Go.Proofs.Ytaghflionakhhaa
