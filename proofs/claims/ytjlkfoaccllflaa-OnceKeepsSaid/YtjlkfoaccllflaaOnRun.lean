/-
  Layer once, the law's: what the reference has noted; arguments in a world that grows.
-/
import Derived.Test.YtjlkfoaccllflaaOnNoteR
import Derived.Test.YtjlkfoaccllflaaOnSmall
import Derived.Test.YtjlkfoaccllflaaOnSet
namespace Go.Proofs.Ytjlkfoaccllflaa
open Go.RowKit Go.Gz

/-- notes of entries, one after another. -/
def notesE (X : List Ent) : List Ent := X.foldl noteE []
theorem notesE_snoc (X : List Ent) (k : Nat) (h : k < X.length) : notesE (X.take (k + 1)) = noteE (notesE (X.take k)) (X.getD k default) := by
  rw [List.take_succ_eq_append_getElem h]
  unfold notesE
  rw [List.foldl_append]
  simp [List.getD, h]
theorem foldl_notes_ord : ∀ (X L : List Ent), OrdK ck L → OrdK ck (X.foldl noteE L)
  | [], _, h => h
  | _ :: t, _, h => foldl_notes_ord t _ (ord_note h)
theorem notesE_ord (X : List Ent) : OrdK ck (notesE X) := foldl_notes_ord X [] List.Pairwise.nil
theorem foldl_notes_len : ∀ (X L : List Ent), (X.foldl noteE L).length ≤ L.length + X.length
  | [], _ => by simp
  | x :: t, L => by
    have h1 := foldl_notes_len t (noteE L x)
    have h2 := length_note (L := L) (x := x)
    rw [List.foldl_cons, List.length_cons]
    omega
theorem notesE_len (X : List Ent) : (notesE X).length ≤ X.length := by have := foldl_notes_len X []; simpa [notesE] using this
theorem foldl_notes_mem : ∀ (X L : List Ent) (e : Ent), e ∈ X.foldl noteE L → (e ∈ X ∧ 0 ≤ e.r.s) ∨ e ∈ L
  | [], _, _, h => Or.inr h
  | x :: t, L, e, h => by
    rcases foldl_notes_mem t _ e h with ⟨h, h'⟩ | h
    · exact Or.inl ⟨by simp [h], h'⟩
    · rcases mem_note h with ⟨rfl, hn⟩ | h
      · exact Or.inl ⟨by simp, newB_pos hn⟩
      · exact Or.inr h
theorem notesE_mem {X : List Ent} {e : Ent} (h : e ∈ notesE X) : e ∈ X ∧ 0 ≤ e.r.s := by
  rcases foldl_notes_mem X [] e h with h | h
  · exact h
  · cases h
theorem foldl_notes_sem : ∀ (X L : List Ent), (∀ e ∈ X, e.s = e.r.s) → semL (X.foldl noteE L) = (X.map Ent.r).foldl noteS (semL L)
  | [], _, _ => rfl
  | x :: t, L, h => by
    rw [List.foldl_cons, foldl_notes_sem t _ fun e he => h e (by simp [he]), note_sem (h x (by simp))]
    rfl
theorem notesE_sem (X : List Ent) (h : ∀ e ∈ X, e.s = e.r.s) : semL (notesE X) = notesS (X.map Ent.r) := foldl_notes_sem X [] h

/-- an argument's replies that are few and short. -/
structure ArgRow (w0 : World) (p : Option Addr) (X : List Ent) : Prop where
  row : RowP w0 p X
  arg : ∀ e ∈ X, ArgIn w0 e
  few : ∀ e ∈ X, e.r.ls.length ≤ 300
  len : X.length ≤ 101
theorem ArgRow.ent {w0 : World} {p : Option Addr} {X : List Ent} (h : ArgRow w0 p X) : EntsIn w0 X := fun e he => ⟨(h.arg e he).rs, h.few e he, (h.arg e he).pc, (h.arg e he).wf⟩
theorem ArgRow.notes {w0 w : World} {p : Option Addr} {X : List Ent} (h : ArgRow w0 p X) (hb : Below w0.heap.size w0 w) : EntsIn w (notesE X) := fun e he => (h.ent e (notesE_mem he).1).below hb
theorem ArgRow.fine {w0 : World} {p : Option Addr} {X : List Ent} (h : ArgRow w0 p X) : ∀ e ∈ notesE X, Fine e := fun e he => by
  have h1 := notesE_mem he
  have h2 := (h.arg e h1.1).s
  exact ⟨h2, by rw [h2]; exact h1.2⟩

/-- the reference's table, behind W. -/
structure OnRun (W : World) (B O : Nat) (L : List Ent) (w : World) : Prop where
  at_ : ∃ v, OnAt w B O v L ∧ ∀ g, v.ownBlock = some g → W.heap.size ≤ g
  kept : Kept (fun i => i = O) W w
  lt : O < W.heap.size
theorem OnRun.below {W : World} {B O : Nat} {L : List Ent} {w w' : World} (h : OnRun W B O L w) (hb : Below w.heap.size w w') : OnRun W B O L w' := by
  obtain ⟨v, h1, h2⟩ := h.at_
  exact ⟨⟨v, h1.below hb, h2⟩, h.kept.trans (Kept.of_below hb (F := fun _ => False)) fun _ _ e => e.elim, h.lt⟩
theorem OnRun.bB {W : World} {B O : Nat} {L : List Ent} {w : World} (h : OnRun W B O L w) : B ≤ O := by
  obtain ⟨v, h1, _⟩ := h.at_
  exact h1.b
theorem OnRun.start {W : World} {B O : Nat} (h : W.heap[O]? = some (.cells #[.slice none 0 0] 28 (0, 0))) (hB : B ≤ O) : OnRun W B O [] W :=
  ⟨⟨_, ⟨h, hB, OwnE.nil _ _ _, List.Pairwise.nil⟩, fun g e => by cases e⟩, Kept.refl _ _, (Array.getElem?_eq_some_iff.1 h).1⟩
/-- the reference's Note, told. -/
theorem note_run {W w : World} {B O : Nat} {L : List Ent} (h : OnRun W B O L w) (hL : L.length ≤ 1000) (e : Ent) (hs : e.s = e.r.s) :
    Calls Try.prog 8 #[.pointer (some ⟨O, 0, none⟩), repV e.r e.p e.k] w fun r w' => r = .returned (.bool (newB L e.r)) ∧ OnRun W B O (noteE L e) w' ∧ Kept (fun i => i = O ∨ W.heap.size ≤ i) w w' := by
  obtain ⟨v, h1, h2⟩ := h.at_
  refine (noteR_any w B O v L h1 hL e.r e.p e.k).mono ?_
  rintro r w' ⟨hr, v', h3, h4, h5⟩
  have he : (⟨e.r.s, e.r, e.p, e.k⟩ : Ent) = e := by
    obtain ⟨es, er, ep, ek⟩ := e
    simp only at hs ⊢
    rw [hs]
  rw [he] at hr h3
  have hk' : Kept (fun i => i = O ∨ W.heap.size ≤ i) w w' := h4.mono fun i _ e => by
    rcases e with rfl | e
    · exact Or.inl rfl
    · exact Or.inr (h2 i e)
  refine ⟨hr, ⟨⟨v', h3, fun g hg => ?_⟩, h.kept.trans hk' fun i hi e => ?_, h.lt⟩, hk'⟩
  · rcases h5 with h5 | h5
    · exact h2 g (by rw [← h5]; exact hg)
    · have := h5 g hg; have := h.kept.size; omega
  · rcases e with rfl | e
    · rfl
    · omega
end Go.Proofs.Ytjlkfoaccllflaa
