/-
  Layer parcel: rows that are read: pure; rows of records.
-/
import Derived.Test.YtkidahlhnhglfaaPcRdAsk
namespace Go.Proofs.Ytkidahlhnhglfaa
open Go.RowKit

/-- as many as n read one behind the other: what is left, and what they are. -/
def iterR {α : Type} (C : Codec α) : Nat → St → St
  | 0, s => s
  | n + 1, s => iterR C n (rdR C s)
def valsR {α : Type} (C : Codec α) (d : α) : Nat → St → List α
  | 0, _ => []
  | n + 1, s => rdV C d s :: valsR C d n (rdR C s)
theorem iterR_err {α : Type} (C : Codec α) (e : Nat) : ∀ n, iterR C n (.error e) = .error e
  | 0 => rfl
  | n + 1 => iterR_err C e n
theorem iter_dec {α : Type} (C : Codec α) (d : α) : ∀ (n : Nat) (b : List UInt8), (∃ l r, decR C n b = .ok (l, r) ∧ iterR C n (.ok b) = .ok r ∧ valsR C d n (.ok b) = l) ∨ (∃ e, decR C n b = .error e ∧ iterR C n (.ok b) = .error e)
  | 0, b => Or.inl ⟨[], b, rfl, rfl, rfl⟩
  | n + 1, b => by
    cases hd : C.dec b with
    | error e =>
      refine Or.inr ⟨e, by unfold decR; rw [hd], ?_⟩
      show iterR C n (rdR C (.ok b)) = _
      rw [rdR_no hd]; exact iterR_err C e n
    | ok x =>
      obtain ⟨x, r⟩ := x
      rcases iter_dec C d n r with ⟨l, s, h1, h2, h3⟩ | ⟨e, h1, h2⟩
      · refine Or.inl ⟨x :: l, s, by unfold decR; rw [hd]; simp only; rw [h1], ?_, ?_⟩
        · show iterR C n (rdR C (.ok b)) = _
          rw [rdR_ok hd]; exact h2
        · show rdV C d (.ok b) :: valsR C d n (rdR C (.ok b)) = _
          rw [rdR_ok hd, rdV_ok hd, h3]
      · refine Or.inr ⟨e, by unfold decR; rw [hd]; simp only; rw [h1], ?_⟩
        show iterR C n (rdR C (.ok b)) = _
        rw [rdR_ok hd]; exact h2
theorem list_seq {α : Type} (C : Codec α) (d : α) (st : St) : rdR (Codec.list C) st = iterR C (rdV numC 0 st) (rdR numC st) ∧ (∀ r, rdR (Codec.list C) st = .ok r → rdV (Codec.list C) [] st = valsR C d (rdV numC 0 st) (rdR numC st)) := by
  cases st with
  | error e => exact ⟨rfl, fun r h => by cases h⟩
  | ok b =>
    cases hn : numC.dec b with
    | error e =>
      have h : (Codec.list C).dec b = .error e := by
        show decL C b = _
        unfold decL
        rw [show decN b = .error e from hn]
      rw [rdR_no h, rdR_no hn, rdV_no hn]
      exact ⟨rfl, fun r h => by cases h⟩
    | ok x =>
      obtain ⟨n, r⟩ := x
      rw [rdR_ok hn, rdV_ok hn]
      rcases iter_dec C d n r with ⟨l, s, h1, h2, h3⟩ | ⟨e, h1, h2⟩
      · have h : (Codec.list C).dec b = .ok (l, s) := by
          show decL C b = _
          unfold decL
          rw [show decN b = .ok (n, r) from hn]
          exact h1
        rw [rdR_ok h, rdV_ok h, h2, h3]
        exact ⟨rfl, fun _ _ => rfl⟩
      · have h : (Codec.list C).dec b = .error e := by
          show decL C b = _
          unfold decL
          rw [show decN b = .ok (n, r) from hn]
          exact h1
        rw [rdR_no h, h2]
        exact ⟨rfl, fun r h => by cases h⟩

def recC : Codec RecL := textC.pair textC
theorem decT_len {b t r : List UInt8} (h : decT b = .ok (t, r)) : r.length + 4 ≤ b.length := by
  unfold decT at h
  cases hd : decN b with
  | error e => rw [hd] at h; cases h
  | ok x =>
    obtain ⟨n, s⟩ := x
    rw [hd] at h
    simp only at h
    by_cases hs : s.length < n
    · rw [if_pos hs] at h; cases h
    · rw [if_neg hs] at h
      injection h with h
      injection h with _ h
      unfold decN at hd
      by_cases h4 : b.length < 4
      · rw [if_pos h4] at hd; cases hd
      · rw [if_neg h4] at hd
        by_cases h5 : 268435456 ≤ numL (b.take 4)
        · rw [if_pos h5] at hd; cases hd
        · rw [if_neg h5] at hd
          injection hd with hd
          injection hd with _ hd
          rw [← h, ← hd]
          simp only [List.length_drop]; omega
theorem recs_short {b r : List UInt8} (h : rdR recC (.ok b) = .ok r) : r.length + 1 ≤ b.length := by
  cases h1 : textC.dec b with
  | error e =>
    have : recC.dec b = .error e := by show decP textC textC b = _; unfold decP; rw [h1]
    rw [rdR_no this] at h; cases h
  | ok x =>
    obtain ⟨x, s⟩ := x
    cases h2 : textC.dec s with
    | error e =>
      have : recC.dec b = .error e := by show decP textC textC b = _; unfold decP; rw [h1]; simp only; rw [h2]
      rw [rdR_no this] at h; cases h
    | ok y =>
      obtain ⟨y, u⟩ := y
      have : recC.dec b = .ok ((x, y), u) := by show decP textC textC b = _; unfold decP; rw [h1]; simp only; rw [h2]
      rw [rdR_ok this] at h
      injection h with h
      subst h
      have := decT_len h1
      have := decT_len h2
      omega

theorem info_rec : (Try.prog.info? 57).map (fun i => (i.zero, i.size, i.bytes)) = some (some (.agg #[.string ⟨#[]⟩, .string ⟨#[]⟩]), 2, 32) := by kernel_rfl
def flatR (ls : List RecL) : List Value := ls.flatMap fun s => [Value.string (strB s.1), Value.string (strB s.2)]
theorem flatR_at (ls : List RecL) : ∀ j, j < ls.length → (flatR ls)[j * 2]? = some (.string (strB (ls.getD j ([], [])).1)) ∧ (flatR ls)[j * 2 + 1]? = some (.string (strB (ls.getD j ([], [])).2)) := by
  induction ls with
  | nil => intro j hj; simp at hj
  | cons s r ih =>
    intro j hj
    cases j with
    | zero => exact ⟨rfl, rfl⟩
    | succ j =>
      have := ih j (by simpa using hj)
      rw [show (j + 1) * 2 = j * 2 + 2 by omega]
      simpa [flatR] using this
/-- v is a row of records that the call owns. -/
def OwnR (w : World) (B : Nat) (v : Value) (ls : List RecL) : Prop := w.ownsRow B 57 2 v ls.length (flatR ls)
theorem OwnR.nil (w : World) (B : Nat) : OwnR w B (.slice none 0 0) [] := World.ownsRow_nil w B _ 2
theorem OwnR.row {w : World} {B : Nat} {v : Value} {ls : List RecL} (h : OwnR w B v ls) : ∃ p c, v = .slice p ls.length c ∧ ls.length ≤ c ∧ (p = none → c = 0) ∧ Recs w p ls := by
  obtain ⟨h1, ⟨rfl, h0⟩ | ⟨g, cap, cur, rfl, hg, hh, hc, hm, hs, ht⟩⟩ := h
  · have : ls = [] := List.eq_nil_of_length_eq_zero h0
    subst this
    exact ⟨none, 0, rfl, Nat.le_refl _, fun _ => rfl, Or.inl rfl⟩
  · refine ⟨_, cap, rfl, hc, (fun h => by cases h), Or.inr ⟨g, 0, rfl, (Array.getElem?_eq_some_iff.1 hh).1, fun j hj => ?_⟩⟩
    obtain ⟨a1, a2⟩ := flatR_at ls j hj
    have e : ∀ i, i < ls.length * 2 → cur[i]? = (flatR ls)[i]? := fun i hi => by
      rw [← ht, List.getElem?_take, if_pos hi, Array.getElem?_toList]
    simp only [World.cell?, hh, Nat.zero_add]
    exact ⟨by show cur[j * 2]? = _; rw [e _ (by omega)]; exact a1, by show cur[j * 2 + 1]? = _; rw [e _ (by omega)]; exact a2⟩
theorem OwnR.alloc {w : World} {B : Nat} {v : Value} {ls : List RecL} (h : OwnR w B v ls) (o : Obj) : OwnR (w.alloc o) B v ls := World.ownsRow.alloc h o
theorem OwnR.lt {w : World} {B : Nat} {v : Value} {ls : List RecL} (h : OwnR w B v ls) : ∀ g, v.ownBlock = some g → B ≤ g := fun g hg => (World.ownsRow.lt h g hg).1
theorem OwnR.chg {w w' : World} {B g : Nat} {v : Value} {ls : List RecL} (h : OwnR w B v ls) (hc : Chg g w w') (hg : g < B) : OwnR w' B v ls := by
  obtain ⟨h1, h2⟩ := h
  refine ⟨h1, ?_⟩
  rcases h2 with h2 | ⟨b, cap, cur, e, hb, hh, r⟩
  · exact Or.inl h2
  · exact Or.inr ⟨b, cap, cur, e, hb, by rw [hc.block b (Array.getElem?_eq_some_iff.1 hh).1 (by omega)]; exact hh, r⟩
theorem OwnR.below {w w' : World} {B : Nat} {v : Value} {ls : List RecL} (h : OwnR w B v ls) (hb : Below w.heap.size w w') : OwnR w' B v ls := by
  obtain ⟨h1, h2⟩ := h
  refine ⟨h1, ?_⟩
  rcases h2 with h2 | ⟨b, cap, cur, e, hg, hh, r⟩
  · exact Or.inl h2
  · exact Or.inr ⟨b, cap, cur, e, hg, by rw [hb.block b (Array.getElem?_eq_some_iff.1 hh).1]; exact hh, r⟩

/-- append of one record. -/
theorem wpList_push_rec {w : World} {ops : Array Oper} {rest : List Oper} {o : Oper} {a : Act} {Q : Exit → Act → World → Prop}
    (hg : o.guard = none) (s x : Operand) (hop : o.op = Op.call { callee := Callee.builtin Builtin.append, args := #[s, x], argTypes := #[35, 35] })
    (B : Nat) (v : Value) (ls : List RecL) (hs : a.eval s = v) (hown : OwnR w B v ls)
    (G c : Nat) (y : RecL) (hx : a.eval x = .slice (some ⟨G, 0, none⟩) 1 c) (hc0 : w.cell? ⟨G, 0, none⟩ = some (.string (strB y.1))) (hc1 : w.cell? ⟨G, 1, none⟩ = some (.string (strB y.2)))
    (hlen : ls.length ≤ 1000000000000) (hB : B ≤ w.heap.size)
    (hK : ∀ v' w', OwnR w' B v' (ls ++ [y]) → w.grownBy w' v.ownBlock → wpList Try.prog ops Q rest (a.put o.dst v') w') :
    wpList Try.prog ops Q (o :: rest) a w := by
  obtain ⟨i0, hi, hz0, hz1, hz2⟩ := info_parts info_rec
  refine wpList_append_own w hg s x 35 hop B 57 i0 (.agg #[.string ⟨#[]⟩, .string ⟨#[]⟩]) 2 32 Try.underlying35 hi hz0 hz1 hz2 rfl (by decide) v ls.length (flatR ls) hs hown ⟨G, 0, none⟩ 1 c [.string (strB y.1), .string (strB y.2)] hx rfl ?_ ?_ (by unfold maxLen; omega) (by omega) hB ?_
  · intro j u hj
    rw [Addr.add_lit, Nat.zero_add]
    match j, hj with
    | 0, hj => simp at hj; subst hj; exact hc0
    | 1, hj => simp at hj; subst hj; exact hc1
    | j + 2, hj => simp at hj
  · intro u hu
    simp only [List.mem_cons, List.not_mem_nil, or_false] at hu
    rcases hu with rfl | rfl <;> rfl
  · intro v' w' ho hgr _
    refine hK v' w' ?_ hgr
    unfold OwnR
    rw [List.length_append, show flatR (ls ++ [y]) = flatR ls ++ [.string (strB y.1), .string (strB y.2)] by simp [flatR]]
    exact ho

theorem RdAt.grown {w w' : World} {g : Nat} {st : St} {row : Option Nat} (h : RdAt w g st) (hg : w.grownBy w' row) (hr : some g ≠ row) : RdAt w' g st := ⟨h.bd, by rw [hg.block g h.lt hr]; exact h.at_⟩

/-- how far a row has been read: what is to come, and what has been read. -/
structure ItI {α β γ : Type} (C : Codec α) (d : α) (g : β → γ) (h : α → γ) (F : St) (L : List γ) (N m : Nat) (s : St) (xs : List β) : Prop where
  it : iterR C m s = F
  vs : ∀ r, F = .ok r → xs.map g ++ (valsR C d m s).map h = L
  bd : xs.length + (restS s).length ≤ N + 1
  lt : (∃ b, s = .ok b) → xs.length + (restS s).length ≤ N
theorem ItI.start {α β γ : Type} {C : Codec α} {d : α} {g : β → γ} {h : α → γ} {st : St} {n N : Nat} {s : St} (hn : rdV numC 0 st = n) (hs : rdR numC st = s) (hN : (restS s).length ≤ N) :
    ItI C d g h (rdR (Codec.list C) st) ((rdV (Codec.list C) [] st).map h) N n s [] := by
  obtain ⟨h1, h2⟩ := list_seq C d st
  rw [hn, hs] at h1 h2
  exact ⟨h1.symm, fun r hr => by rw [List.map_nil, List.nil_append, h2 r hr], by rw [List.length_nil]; omega, fun _ => by rw [List.length_nil]; omega⟩
theorem ItI.step {α β γ : Type} {C : Codec α} {d : α} {g : β → γ} {h : α → γ} {F : St} {L : List γ} {N m : Nat} {b : List UInt8} {xs : List β} (H : ItI C d g h F L N (m + 1) (.ok b) xs) (hC : ∀ r, rdR C (.ok b) = .ok r → r.length + 1 ≤ b.length)
    {y : β} (hy : ∀ r, rdR C (.ok b) = .ok r → g y = h (rdV C d (.ok b))) : ItI C d g h F L N m (rdR C (.ok b)) (xs ++ [y]) := by
  have hlt := H.lt ⟨b, rfl⟩
  have hb : (restS (.ok b)).length = b.length := rfl
  have hit : iterR C m (rdR C (.ok b)) = F := H.it
  refine ⟨hit, fun r hr => ?_, ?_, fun ⟨b2, hb2⟩ => ?_⟩
  · have hs2 : ∃ r2, rdR C (.ok b) = .ok r2 := by
      cases hs : rdR C (.ok b) with
      | ok r2 => exact ⟨r2, rfl⟩
      | error e2 =>
        rw [hs, iterR_err] at hit
        rw [← hit] at hr; cases hr
    obtain ⟨r2, hr2⟩ := hs2
    have h6 := H.vs r hr
    rw [show valsR C d (m + 1) (.ok b) = rdV C d (.ok b) :: valsR C d m (rdR C (.ok b)) from rfl, List.map_cons, ← hy r2 hr2] at h6
    rw [List.map_append, List.append_assoc]
    exact h6
  · rw [List.length_append, List.length_singleton]
    cases hs : rdR C (.ok b) with
    | ok r2 => have := hC r2 hs; show _ + r2.length ≤ _; omega
    | error e2 => show _ + 0 ≤ _; omega
  · have := hC b2 hb2
    rw [List.length_append, List.length_singleton, hb2]
    show _ + b2.length ≤ _
    omega
theorem ItI.done {α β γ : Type} {C : Codec α} {d : α} {g : β → γ} {h : α → γ} {F : St} {L : List γ} {N : Nat} {s : St} {xs : List β} (H : ItI C d g h F L N 0 s xs) : s = F ∧ ∀ r, F = .ok r → xs.map g = L :=
  ⟨H.it, fun r hr => by have := H.vs r hr; rwa [show valsR C d 0 s = [] from rfl, List.map_nil, List.append_nil] at this⟩
theorem ItI.err {α β γ : Type} {C : Codec α} {d : α} {g : β → γ} {h : α → γ} {F : St} {L : List γ} {N m e : Nat} {xs : List β} (H : ItI C d g h F L N m (.error e) xs) : F = .error e := by rw [← H.it]; exact iterR_err _ _ _
theorem rest_take (st : St) (n : Nat) : (restS (takeR st n)).length ≤ (restS st).length := by
  cases st with
  | error e => exact Nat.le_refl _
  | ok b =>
    by_cases h : n ≤ b.length
    · rw [show takeR (.ok b) n = .ok (b.drop n) from if_pos h]; simp [restS]
    · rw [show takeR (.ok b) n = .error 7 from if_neg h]; exact Nat.zero_le _
theorem rest_num (st : St) : (restS (rdR numC st)).length ≤ (restS st).length := by
  rcases rd_num st with ⟨_, _, h⟩ | ⟨_, _, h⟩
  · rw [h]; exact rest_take _ _
  · rw [h]; exact Nat.zero_le _
theorem rest_text (st : St) : (restS (rdR textC st)).length ≤ (restS st).length := by
  rw [← (rd_text st).2]; exact Nat.le_trans (rest_take _ _) (rest_num st)
theorem rest_truth (st : St) : (restS (rdR truthC st)).length ≤ (restS st).length := by
  rcases rd_truth st with ⟨_, _, h⟩ | ⟨_, _, h⟩ | ⟨_, _, h⟩ | ⟨_, _, _, _, _, h⟩
  · rw [h]; exact rest_take _ _
  · rw [h]; exact rest_take _ _
  · rw [h]; exact rest_take _ _
  · rw [h]; exact Nat.zero_le _
theorem Chg.grown {g : Nat} {w w' : World} {row : Option Nat} (hg : w.grownBy w' row) {W : World} (hc : Chg g W w) (hr : ∀ b, row = some b → W.heap.size ≤ b) : Chg g W w' :=
  ⟨hg.os.trans hc.os, hg.tape.trans hc.tape, hg.output.trans hc.output, Nat.le_trans hc.size hg.size, fun i hi hne => by
    rw [hg.block i (by have := hc.size; omega) fun e => by have := hr i e.symm; omega]
    exact hc.block i hi hne⟩
end Go.Proofs.Ytkidahlhnhglfaa
