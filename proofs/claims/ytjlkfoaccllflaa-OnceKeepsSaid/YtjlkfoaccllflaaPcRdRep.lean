/-
  Layer parcel: a reply is read.
-/
import Derived.Test.YtjlkfoaccllflaaPcRecs
namespace Go.Proofs.Ytjlkfoaccllflaa
open Go.RowKit

/-- a reply as it is read. -/
def repT (a : Nat × Nat × Nat × Bool × List UInt8 × List (List UInt8 × List UInt8) × List UInt8 × Bool) : RepL := ⟨a.1, a.2.1, a.2.2.1, a.2.2.2.1, a.2.2.2.2.1, a.2.2.2.2.2.1, a.2.2.2.2.2.2.1, a.2.2.2.2.2.2.2⟩
theorem reply_seq (st : St) : rdR replyC st = (rdR truthC (rdR textC (rdR (Codec.list recC) (rdR textC (rdR truthC (rdR numC (rdR numC (rdR numC st)))))))) := by
  unfold replyC
  simp only [rdR_pair]
  rfl
theorem reply_vals (st : St) {r : List UInt8} (h : rdR replyC st = .ok r) : rdV replyC (0, 0, 0, false, [], [], [], false) st =
    (rdV numC 0 st, rdV numC 0 (rdR numC st), rdV numC 0 (rdR numC (rdR numC st)), rdV truthC false (rdR numC (rdR numC (rdR numC st))), rdV textC [] (rdR truthC (rdR numC (rdR numC (rdR numC st)))), rdV (Codec.list recC) [] (rdR textC (rdR truthC (rdR numC (rdR numC (rdR numC st))))), rdV textC [] (rdR (Codec.list recC) (rdR textC (rdR truthC (rdR numC (rdR numC (rdR numC st)))))), rdV truthC false (rdR textC (rdR (Codec.list recC) (rdR textC (rdR truthC (rdR numC (rdR numC (rdR numC st)))))))) ∧ (∃ r2, rdR (Codec.list recC) (rdR textC (rdR truthC (rdR numC (rdR numC (rdR numC st))))) = .ok r2) := by
  unfold replyC at h ⊢
  rw [rdV_pair _ _ _ _ h]
  rw [rdR_pair] at h
  rw [rdV_pair _ _ _ _ h]
  rw [rdR_pair] at h
  rw [rdV_pair _ _ _ _ h]
  rw [rdR_pair] at h
  rw [rdV_pair _ _ _ _ h]
  rw [rdR_pair] at h
  rw [rdV_pair _ _ _ _ h]
  rw [rdR_pair] at h
  rw [rdV_pair _ _ _ _ h]
  rw [rdR_pair] at h
  rw [rdV_pair _ _ _ _ h]
  rw [rdR_pair] at h
  refine ⟨rfl, ?_⟩
  cases hx : rdR (Codec.list recC) (rdR textC (rdR truthC (rdR numC (rdR numC (rdR numC st))))) with
  | ok r2 => exact ⟨r2, rfl⟩
  | error e =>
    have h2 : rdR truthC (rdR textC (rdR (Codec.list recC) (rdR textC (rdR truthC (rdR numC (rdR numC (rdR numC st))))))) = .ok r := h
    rw [hx] at h2
    cases h2

def repZ : RepL := ⟨0, 0, 0, false, [], [], [], false⟩
/-- what ReadReply says of the bytes. -/
def rdRepE (l : List UInt8) : Nat := if 32768 < l.length then 3 else errX (readL replyC l)
def RetRR (w : World) (l : List UInt8) (e : Ending) (w' : World) : Prop :=
  ∃ (r : RepL) (q : Option Addr) (d : Nat), e = .returned (.tuple #[repV r q d, .int .i64 (rdRepE l)]) ∧ (∀ x, l.length ≤ 32768 → readL replyC l = .ok x → r = repT x ∧ Recs w' q r.ls) ∧ Below w.heap.size w w'
def zRep : Obj := .cells #[.int .i64 0, .int .i64 0, .int .i64 0, .bool false, .string ⟨#[]⟩, .slice none 0 0, .string ⟨#[]⟩, .bool false] 33

theorem recs_set {w : World} {B g o : Nat} {u : Value} {v : Value} {ls : List RecL} (h : OwnR w B v ls) (hg : g < B) : OwnR (w.setCell ⟨g, o, none⟩ u) B v ls := by
  obtain ⟨h1, h2⟩ := h
  refine ⟨h1, ?_⟩
  rcases h2 with h2 | ⟨b, cap, cur, rfl, hb, hh, r⟩
  · exact Or.inl h2
  · exact Or.inr ⟨b, cap, cur, rfl, hb, by rw [Below.heap_setCell _ _ _ _ (by show b ≠ g; omega)]; exact hh, r⟩
theorem own_recs {w : World} {B k d : Nat} {q : Option Addr} {ls : List RecL} (h : OwnR w B (.slice q k d) ls) : Recs w q ls := by
  obtain ⟨q', d', he, -, -, hrec⟩ := h.row
  injection he with he _ _
  rw [he]; exact hrec
theorem rest_take (st : St) (n : Nat) : (restS (takeR st n)).length ≤ (restS st).length := by
  cases st with
  | error e => exact Nat.le_refl _
  | ok b =>
    by_cases h : n ≤ b.length
    · rw [show takeR (.ok b) n = .ok (b.drop n) from if_pos h]; simp [restS]
    · rw [show takeR (.ok b) n = .error 7 from if_neg h]; exact Nat.zero_le _
theorem rest_num (st : St) : (restS (rdR numC st)).length ≤ (restS st).length := by
  rcases rd_num st with ⟨_, _, h⟩ | ⟨_, _, h⟩
  · rw [h]; exact rest_take _ _
  · rw [h]; exact Nat.zero_le _
theorem rest_text (st : St) : (restS (rdR textC st)).length ≤ (restS st).length := by
  rw [← (rd_text st).2]; exact Nat.le_trans (rest_take _ _) (rest_num st)
theorem rest_truth (st : St) : (restS (rdR truthC st)).length ≤ (restS st).length := by
  rcases rd_truth st with ⟨_, _, h⟩ | ⟨_, _, h⟩ | ⟨_, _, h⟩ | ⟨_, _, _, _, _, h⟩
  · rw [h]; exact rest_take _ _
  · rw [h]; exact rest_take _ _
  · rw [h]; exact rest_take _ _
  · rw [h]; exact Nat.zero_le _

end Go.Proofs.Ytjlkfoaccllflaa
