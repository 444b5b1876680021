/-
  SortkeyKnown: its table, its keys.
-/
import Derived.Test.YtcocmmndonlhkaaDoorSkLongM
namespace Go.Proofs.YtcocmmndonlhkaaDoor
open Go.RowKit Go.Gz Go.Sort

def knR (h : Nat) : List WR := [⟨some ⟨h, 0, none⟩, [32], 1, some ⟨h + 1, 0, none⟩, [⟨5, 32, 2⟩], 1⟩, ⟨some ⟨h + 1 + 1, 0, none⟩, [97], 1, some ⟨h + 1 + 1 + 1, 0, none⟩, [⟨10, 32, 2⟩], 1⟩, ⟨some ⟨h + 1 + 1 + 1 + 1, 0, none⟩, [769], 1, some ⟨h + 1 + 1 + 1 + 1 + 1, 0, none⟩, [⟨0, 41, 2⟩], 1⟩]
def knT (h : Nat) (top : Int) : TB := ⟨none, [], 0, some ⟨h + 1 + 1 + 1 + 1 + 1 + 1, 0, none⟩, knR h, 3, top, true⟩
theorem kn_may (h : Nat) : mayWB (knT h 9).ls (knT h 9).rs (knT h 9).top = true := by kernel_rfl
theorem kn_bad (h : Nat) : mayWB (knT h (-1)).ls (knT h (-1)).rs (knT h (-1)).top = false := by kernel_rfl
theorem kn_key (h : Nat) : keyOf (knT h 9) [97, 32, 769, 97] = [0, 10, 0, 10, 0, 0, 0, 32, 0, 32, 0, 0, 0, 2, 0, 2, 0, 0, 255, 255, 0, 5, 255, 255] := by kernel_rfl
theorem kn_lev (h : Nat) : levL (knT h 9).sh (knT h 9).top [⟨5, 1, 1⟩, ⟨0, 3, 3⟩, ⟨0, 0, 0⟩, ⟨20, 1, 1⟩, ⟨0, 3, 3⟩] = [[20], [1, 3], [1, 3], [5, 65535, 65535]] := by kernel_rfl
theorem kn_v : ∀ r ∈ [(97 : Int), 32, 769, 97], V r := by
  intro r hr
  simp only [List.mem_cons, List.not_mem_nil, or_false] at hr
  unfold V
  omega
theorem kn_enc : (⟨#[97, 32, 204, 129, 97]⟩ : ByteArray).data.toList = encAll [97, 32, 769, 97] := by
  rw [encAll_cons, encAll_cons, encAll_cons, encAll_cons, enc_one (by omega) (by omega), enc_one (by omega) (by omega), enc_two (by omega) (by omega)]; rfl
theorem kn_make {h : Nat} {k : List UInt8} {er : Int} (hm : MakeIs (knT h 9) ⟨#[97, 32, 204, 129, 97]⟩ k er) : k = [0, 10, 0, 10, 0, 0, 0, 32, 0, 32, 0, 0, 0, 2, 0, 2, 0, 0, 255, 255, 0, 5, 255, 255] ∧ er = 0 := by
  rcases makeIs_ok hm kn_v kn_enc (by decide) (kn_may h) with ⟨h1, _⟩ | ⟨_, h2, h3⟩
  · rw [kn_key] at h1; simp at h1
  · exact ⟨by rw [h3, kn_key], h2⟩
theorem no_txt : ∀ rs : List Int, (∀ r ∈ rs, V r) → ([255] : List UInt8) ≠ encAll rs := by
  intro rs hv he
  cases rs with
  | nil => cases he
  | cons r t =>
    have hr := hv r (by simp)
    rw [encAll_cons] at he
    rcases V_cases hr with c | c | c | c
    · rw [enc_one c.1 c.2] at he
      injection he with he _
      have := congrArg UInt8.toNat he
      have e : (r.toNat.toUInt8).toNat = r.toNat := by simp [Nat.toUInt8]; omega
      rw [e] at this
      simp at this
      omega
    · rw [enc_two c.1 c.2] at he
      injection he with _ he
      cases he
    · rw [enc_three c] at he
      injection he with _ he
      cases he
    · rw [enc_four c.1 c.2] at he
      injection he with _ he
      cases he
/-- a text that is none, by a table that may not be. -/
theorem kn_table {h : Nat} {k : List UInt8} {er : Int} {s : ByteArray} (hm : MakeIs (knT h (-1)) s k er) : er = 4 := by
  obtain ⟨rs, wr, _, h'⟩ := hm
  have he : errE (knT h (-1)) rs = 4 := by unfold errE; rw [kn_bad]; rfl
  rw [he] at h'
  rcases h' with ⟨_, a, _⟩ | ⟨a, _⟩
  · rw [a, if_neg (by decide)]
  · exact absurd a (by rw [if_neg (by decide)]; decide)
theorem kn_text {h : Nat} {k : List UInt8} {er : Int} (hm : MakeIs (knT h 9) ⟨#[255]⟩ k er) : er = 2 := by
  obtain ⟨rs, wr, hr, h'⟩ := hm
  rcases hr with ⟨h1, _⟩ | ⟨_, _, rfl, rfl⟩ | ⟨_, h2, h3, _⟩
  · exact absurd h1 (by decide)
  · have he : errE (knT h 9) [] = 0 := by unfold errE; rw [kn_may]; rfl
    rw [he] at h'
    rcases h' with ⟨_, a, _⟩ | ⟨a, _⟩
    · exact a
    · exact absurd a (by decide)
  · exact absurd h3 (no_txt rs h2)
end Go.Proofs.YtcocmmndonlhkaaDoor
