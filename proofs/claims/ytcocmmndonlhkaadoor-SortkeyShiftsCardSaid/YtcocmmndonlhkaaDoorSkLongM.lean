/-
  Keys of rows of one letter: how long they are.
-/
import Derived.Test.YtcocmmndonlhkaaDoorSkAwake
namespace Go.Proofs.YtcocmmndonlhkaaDoor
open Go.RowKit Go.Gz Go.Sort

/-- the table of one letter. -/
def lgT (h q : Nat) (es : List EL) : TB := ⟨none, [], 0, some ⟨h + 1 + 1, 0, none⟩, [⟨some ⟨h, 0, none⟩, [97], 1, some ⟨q, 0, none⟩, es, es.length⟩], 1, 0, false⟩
def lgE : EL := ⟨10, 32, 2⟩
theorem lg_may1 (h q : Nat) : mayWB (lgT h q [lgE]).ls (lgT h q [lgE]).rs (lgT h q [lgE]).top = true := by kernel_rfl
theorem lg_may4 (h q : Nat) : mayWB (lgT h q [lgE, lgE, lgE, lgE]).ls (lgT h q [lgE, lgE, lgE, lgE]).rs (lgT h q [lgE, lgE, lgE, lgE]).top = true := by kernel_rfl
theorem lg_all1 (h q : Nat) : ((List.range 65).all fun n => (keyOf (lgT h q [lgE]) (List.replicate n 97)).length == 6 * n + 6) = true := by kernel_rfl
theorem lg_all4 (h q : Nat) : ((List.range 65).all fun n => (keyOf (lgT h q [lgE, lgE, lgE, lgE]) (List.replicate n 97)).length == 24 * n + 6) = true := by kernel_rfl
theorem lg_len1 (h q n : Nat) (hn : n ≤ 64) : (keyOf (lgT h q [lgE]) (List.replicate n 97)).length = 6 * n + 6 := eq_of_beq (List.all_eq_true.1 (lg_all1 h q) n (List.mem_range.2 (by omega)))
theorem lg_len4 (h q n : Nat) (hn : n ≤ 64) : (keyOf (lgT h q [lgE, lgE, lgE, lgE]) (List.replicate n 97)).length = 24 * n + 6 := eq_of_beq (List.all_eq_true.1 (lg_all4 h q) n (List.mem_range.2 (by omega)))
theorem v_rep (n : Nat) : ∀ r ∈ List.replicate n (97 : Int), V r := by
  intro r hr
  rw [List.eq_of_mem_replicate hr]; unfold V; omega
theorem enc_rep : ∀ n : Nat, encAll (List.replicate n (97 : Int)) = List.replicate n (97 : UInt8)
  | 0 => rfl
  | n + 1 => by
    rw [List.replicate_succ, encAll_cons, enc_rep n, enc_one (by omega) (by omega), List.replicate_succ]; rfl
/-- a text that is too long, by a table that may be. -/
theorem makeIs_long {T : TB} {s : ByteArray} {k : List UInt8} {er : Int} (h : MakeIs T s k er) (h64 : 64 < s.size) (hm : mayWB T.ls T.rs T.top = true) : k = [] ∧ er = 3 := by
  obtain ⟨rs, wr, hr, h'⟩ := h
  obtain ⟨rfl, rfl⟩ := rdIs_one hr (Or.inl ⟨h64, rfl, rfl⟩)
  have he : errE T [] = 0 := by
    unfold errE
    rw [if_pos hm]; rfl
  rw [he] at h'
  rcases h' with ⟨_, a, b⟩ | ⟨a, _⟩
  · exact ⟨b, a⟩
  · exact absurd a (by decide)
/-- what Make answers of n letters. -/
theorem lg_make {T : TB} {n a : Nat} (hm : mayWB T.ls T.rs T.top = true) (hl : n ≤ 64 → (keyOf T (List.replicate n 97)).length = a * n + 6) {s : ByteArray} (hs : s.data.toList = List.replicate n 97) {k : List UInt8} {er : Int} (h : MakeIs T s k er) :
    ((64 < n ∨ 640 < a * n + 6) ∧ k = [] ∧ er = 3) ∨ (¬ 64 < n ∧ ¬ 640 < a * n + 6 ∧ k.length = a * n + 6 ∧ er = 0) := by
  have hz : s.size = n := by
    show s.data.size = n
    rw [← Array.length_toList, hs, List.length_replicate]
  by_cases h64 : 64 < n
  · obtain ⟨h1, h2⟩ := makeIs_long h (by omega) hm
    exact Or.inl ⟨Or.inl h64, h1, h2⟩
  · have hl' := hl (by omega)
    rcases makeIs_ok h (v_rep n) (hs.trans (enc_rep n).symm) (by omega) hm with ⟨h1, h2, h3⟩ | ⟨h1, h2, h3⟩
    · exact Or.inl ⟨Or.inr (by omega), h3, h2⟩
    · exact Or.inr ⟨h64, by omega, by rw [h3]; exact hl', h2⟩
end Go.Proofs.YtcocmmndonlhkaaDoor
