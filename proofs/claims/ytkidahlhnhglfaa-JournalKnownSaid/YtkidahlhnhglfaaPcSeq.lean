/-
  Layer parcel, pure: parts read one behind the other, and the codecs of an ask and of a reply.
-/
import Derived.Test.YtkidahlhnhglfaaPcRd
namespace Go.Proofs.Ytkidahlhnhglfaa
open Go.RowKit

theorem rdR_pair {α β : Type} (a : Codec α) (b : Codec β) (st : St) : rdR (a.pair b) st = rdR b (rdR a st) := by
  cases st with
  | error e => rfl
  | ok l =>
    cases ha : a.dec l with
    | error e =>
      have h : (a.pair b).dec l = .error e := by show decP a b l = _; unfold decP; rw [ha]
      rw [rdR_no h, rdR_no ha]; rfl
    | ok x =>
      obtain ⟨x, r⟩ := x
      rw [rdR_ok ha]
      cases hb : b.dec r with
      | error e =>
        have h : (a.pair b).dec l = .error e := by show decP a b l = _; unfold decP; rw [ha]; simp only; rw [hb]
        rw [rdR_no h, rdR_no hb]
      | ok y =>
        obtain ⟨y, s⟩ := y
        have h : (a.pair b).dec l = .ok ((x, y), s) := by show decP a b l = _; unfold decP; rw [ha]; simp only; rw [hb]
        rw [rdR_ok h, rdR_ok hb]
theorem rdV_pair {α β : Type} (a : Codec α) (b : Codec β) (d : α × β) (st : St) {r : List UInt8} (h0 : rdR (a.pair b) st = .ok r) : rdV (a.pair b) d st = (rdV a d.1 st, rdV b d.2 (rdR a st)) := by
  cases st with
  | error e => cases h0
  | ok l =>
    cases ha : a.dec l with
    | error e =>
      have h : (a.pair b).dec l = .error e := by show decP a b l = _; unfold decP; rw [ha]
      rw [rdR_no h] at h0; cases h0
    | ok x =>
      obtain ⟨x, r⟩ := x
      cases hb : b.dec r with
      | error e =>
        have h : (a.pair b).dec l = .error e := by show decP a b l = _; unfold decP; rw [ha]; simp only; rw [hb]
        rw [rdR_no h] at h0; cases h0
      | ok y =>
        obtain ⟨y, s⟩ := y
        have h : (a.pair b).dec l = .ok ((x, y), s) := by show decP a b l = _; unfold decP; rw [ha]; simp only; rw [hb]
        rw [rdV_ok h, rdR_ok ha, rdV_ok ha, rdV_ok hb]
def errX {α : Type} : Except Nat α → Nat
  | .ok _ => 0
  | .error e => e
theorem end_read {α : Type} (C : Codec α) (l : List UInt8) : endE (rdR C (.ok l)) = errX (readL C l) := by
  unfold readL
  cases h : C.dec l with
  | error e => rw [rdR_no h]; rfl
  | ok x =>
    obtain ⟨x, r⟩ := x
    rw [rdR_ok h]
    cases r with
    | nil => rfl
    | cons y r => rfl
theorem val_read {α : Type} (C : Codec α) (d x : α) (l : List UInt8) (h : readL C l = .ok x) : rdR C (.ok l) = .ok [] ∧ rdV C d (.ok l) = x := by
  unfold readL at h
  cases hd : C.dec l with
  | error e => rw [hd] at h; cases h
  | ok y =>
    obtain ⟨y, r⟩ := y
    rw [hd] at h
    simp only at h
    by_cases hr : r = []
    · rw [if_pos hr] at h
      injection h with h
      subst h hr
      exact ⟨rdR_ok hd, rdV_ok hd⟩
    · rw [if_neg hr] at h; cases h

/-- an ask as it is read. -/
def askT (a : Nat × Nat × Nat × Nat × List UInt8 × List UInt8 × List UInt8 × List UInt8) : AskL := ⟨a.1, a.2.1, a.2.2.1, a.2.2.2.2.1, a.2.2.2.2.2.1, a.2.2.2.2.2.2.1, a.2.2.2.2.2.2.2, a.2.2.2.1⟩
theorem ask_seq (st : St) : rdR askC st = rdR textC (rdR textC (rdR textC (rdR textC (rdR numC (rdR numC (rdR numC (rdR numC st))))))) := by
  unfold askC
  simp only [rdR_pair]
theorem ask_vals (st : St) {r : List UInt8} (h : rdR askC st = .ok r) : rdV askC (0, 0, 0, 0, [], [], [], []) st =
    (rdV numC 0 st, rdV numC 0 (rdR numC st), rdV numC 0 (rdR numC (rdR numC st)), rdV numC 0 (rdR numC (rdR numC (rdR numC st))), rdV textC [] (rdR numC (rdR numC (rdR numC (rdR numC st)))), rdV textC [] (rdR textC (rdR numC (rdR numC (rdR numC (rdR numC st))))), rdV textC [] (rdR textC (rdR textC (rdR numC (rdR numC (rdR numC (rdR numC st)))))), rdV textC [] (rdR textC (rdR textC (rdR textC (rdR numC (rdR numC (rdR numC (rdR numC st)))))))) := by
  unfold askC at h ⊢
  rw [rdV_pair _ _ _ _ h]
  rw [rdR_pair] at h
  rw [rdV_pair _ _ _ _ h]
  rw [rdR_pair] at h
  rw [rdV_pair _ _ _ _ h]
  rw [rdR_pair] at h
  rw [rdV_pair _ _ _ _ h]
  rw [rdR_pair] at h
  rw [rdV_pair _ _ _ _ h]
  rw [rdR_pair] at h
  rw [rdV_pair _ _ _ _ h]
  rw [rdR_pair] at h
  rw [rdV_pair _ _ _ _ h]
end Go.Proofs.Ytkidahlhnhglfaa
