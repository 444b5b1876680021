/-
  Layer once: a reply with a list of its own.
-/
import Derived.Test.YtjlkfoaccllflaaOnMem
import Derived.Lib.Walk
import Derived.Test.YtjlkfoaccllflaaPcSame
import Derived.Deep.CutRange
namespace Go.Proofs.Ytjlkfoaccllflaa
open Go.RowKit Go.Gz

theorem flatR_len (ls : List RecL) : (flatR ls).length = ls.length * 2 := by
  induction ls with
  | nil => rfl
  | cons e t ih =>
    show (flatR t).length + 2 = _
    rw [ih, List.length_cons]
    omega
theorem flatR_one (ls : List RecL) : ∀ u ∈ flatR ls, u.oneCell' = true := by
  intro u hu
  obtain ⟨e, _, hu⟩ := List.mem_flatMap.1 hu
  simp only [List.mem_cons, List.not_mem_nil, or_false] at hu
  rcases hu with rfl | rfl <;> rfl
theorem Recs.flat {w : World} {b off : Nat} {ls : List RecL} (h : Recs w (some ⟨b, off, none⟩) ls) : ∀ j u, (flatR ls)[j]? = some u → w.cell? ((⟨b, off, none⟩ : Addr).add j) = some u := by
  intro j u hj
  have hl := (List.getElem?_eq_some_iff.1 hj).1
  rw [flatR_len] at hl
  rcases h with h | ⟨b', off', hp, _, hc⟩
  · rw [h] at hl; simp at hl
  · injection hp with hp
    injection hp with h1 h2 _
    subst h1 h2
    obtain ⟨e0, e1⟩ := hc (j / 2) (by omega)
    obtain ⟨f0, f1⟩ := flatR_at ls (j / 2) (by omega)
    rw [Addr.add_lit]
    rcases Nat.mod_two_eq_zero_or_one j with hm | hm
    · rw [show j / 2 * 2 = j by omega, hj] at f0
      rw [show off + j = off + j / 2 * 2 by omega, e0]; exact f0.symm
    · rw [show j / 2 * 2 + 1 = j by omega, hj] at f1
      rw [show off + j = off + j / 2 * 2 + 1 by omega, e1]; exact f1.symm
theorem wpList_app_recs {w : World} {B : Nat} {v : Value} {L : List RecL} {ops : Array Oper} {rest : List Oper} {o : Oper} {a : Act} {Q : Exit → Act → World → Prop}
    (hg : o.guard = none) (s x : Operand) (hop : o.op = Op.call { callee := Callee.builtin Builtin.append, args := #[s, x], argTypes := #[31, 31] })
    (hs : a.eval s = v) (h : OwnR w B v L) (p : Option Addr) (c : Nat) (M : List RecL) (hx : a.eval x = .slice p M.length c) (hrow : Recs w p M) (hpc : p = none → c = 0) (hlen : L.length + M.length ≤ 1000000) (hB : B ≤ w.heap.size)
    (hK : ∀ v' w', OwnR w' B v' (L ++ M) → w.grownBy w' v.ownBlock → wpList Try.prog ops Q rest (a.put o.dst v') w') :
    wpList Try.prog ops Q (o :: rest) a w := by
  obtain ⟨i0, hi, hz0, hz1, hz2⟩ := info_parts info_rec
  cases p with
  | none =>
    obtain rfl : M = [] := by
      rcases hrow with h | ⟨b, off, hp, _⟩
      · exact h
      · cases hp
    obtain rfl := hpc rfl
    refine wpList_append_own_none hg s x 31 hop B 66 i0 2 Try.underlying31 hi v L.length (flatR L) hs h hx ?_
    refine hK v w ?_ (World.grownBy.refl _ _)
    rw [List.append_nil]; exact h
  | some ad =>
    have hpt : M ≠ [] → ∃ b off, ad = ⟨b, off, none⟩ := fun hne => by
      rcases hrow with h | ⟨b, off, hp, _⟩
      · exact absurd h hne
      · injection hp with hp; exact ⟨b, off, hp⟩
    refine wpList_append_own w hg s x 31 hop B 66 i0 (.agg #[.string ⟨#[]⟩, .string ⟨#[]⟩]) 2 32 Try.underlying31 hi hz0 hz1 hz2 rfl (by decide) v L.length (flatR L) hs h ad M.length c (flatR M) hx (flatR_len M) ?_ (flatR_one M) (by unfold maxLen; omega) (by omega) hB ?_
    · intro j u hj
      have hne : M ≠ [] := fun e => by rw [e] at hj; simp [flatR] at hj
      obtain ⟨b, off, rfl⟩ := hpt hne
      exact hrow.flat j u hj
    · intro v' w' ho hgr _
      refine hK v' w' ?_ hgr
      unfold OwnR
      rw [List.length_append, show flatR (L ++ M) = flatR L ++ flatR M by simp [flatR]]
      exact ho
theorem OwnR.empty (w : World) (B : Nat) (hB : B ≤ w.heap.size) : OwnR (w.alloc (.cells #[] 66)) B (.slice (some ⟨w.heap.size, 0, none⟩) 0 0) [] :=
  World.ownsRow_made w #[] 0 hB (by unfold maxLen; omega) rfl

theorem cloneR_any (l : List RecL) (hl : l.length ≤ 900000) (p : Option Addr) (cap : Nat) (w : World) (hp : Recs w p l) (hpc : p = none → cap = 0) :
    Calls Try.prog 28 #[.slice p l.length cap] w fun e w' => ∃ v, e = .returned v ∧ OwnR w' w.heap.size v l ∧ Below w.heap.size w w' := by
  have HF := Lib.hid (show ∀ v w', OwnR w' w.heap.size v l → Below w.heap.size w w' → ∃ v', Ending.returned v = .returned v' ∧ OwnR w' w.heap.size v' l ∧ Below w.heap.size w w' from fun v w' h1 h2 => ⟨v, rfl, h1, h2⟩)
  have HP := Lib.hid hp
  have HPC := Lib.hid hpc
  cases p with
  | none =>
    obtain rfl : l = [] := by
      rcases hp with h | ⟨b, o, h, _⟩
      · exact h
      · cases h
    obtain rfl := hpc rfl
    clear hp hpc
    have he := fun w : World => Lib.run_eql_slice_nil (P := Try.prog) w 31 66 none 0 0 0 0 Try.underlying31
    go_enter Try.func28, Try.ntmps28
    go_wp2_with fail
    go_ret
    exact HF.out _ _ (OwnR.nil _ _) (Below.refl _ _)
  | some a =>
    clear hp hpc
    have hlz := Lib.hid hl
    have he := fun w : World => Lib.run_eql_slice_nil (P := Try.prog) w 31 66 (some a) l.length cap 0 0 Try.underlying31
    obtain ⟨n, hn⟩ : ∃ n, l.length = n := ⟨_, rfl⟩
    rw [hn] at he ⊢
    have HN := Lib.hid hn
    clear hn hl
    go_enter Try.func28, Try.ntmps28
    go_wp2_with (at_builtin; refine wpList_app_recs rfl _ _ rfl rfl (OwnR.empty _ w.heap.size (Nat.le_refl _)) (some a) cap l (by rw [HN.out]; rfl) (HP.out.below ((Below.refl _ _).alloc (Nat.le_refl _) _)) HPC.out (by have := hlz.out; simp; omega) (by simp) ?_)
    intro v1 w1 hown1 hgrow
    have HB1 := Lib.hid (((Below.refl w.heap.size w).alloc (Nat.le_refl _) (.cells #[] 66)).grown hgrow (by simp) (fun g hg => by simp [Value.ownBlock] at hg; omega))
    have HO1 := Lib.hid hown1
    clear hown1 hgrow
    go_wp2_with fail
    go_ret
    exact HF.out _ _ HO1.out HB1.out

theorem two_blocks {w wr : World} {c1 c2 : Array Value} {t1 t2 : TypeId} (hb : Below (w.heap.size + 2) ((w.alloc (.cells c1 t1)).alloc (.cells c2 t2)) wr) : wr.heap[w.heap.size]? = some (.cells c1 t1 (0, 0)) ∧ wr.heap[w.heap.size + 1]? = some (.cells c2 t2 (0, 0)) := by
  have z : (w.alloc (.cells c1 t1)).heap.size = w.heap.size + 1 := by simp
  have h2 : ((w.alloc (.cells c1 t1)).alloc (.cells c2 t2)).heap[w.heap.size + 1]? = some (.cells c2 t2 (0, 0)) := by
    have := new_block (w.alloc (.cells c1 t1)) c2 t2
    rwa [z] at this
  have h1 : ((w.alloc (.cells c1 t1)).alloc (.cells c2 t2)).heap[w.heap.size]? = some (.cells c1 t1 (0, 0)) := by
    have hb1 : Below (w.alloc (.cells c1 t1)).heap.size (w.alloc (.cells c1 t1)) ((w.alloc (.cells c1 t1)).alloc (.cells c2 t2)) := (Below.refl _ _).alloc (Nat.le_refl _) _
    rw [hb1.block w.heap.size (by rw [z]; omega)]
    exact new_block _ _ _
  exact ⟨by rw [hb.block _ (by omega)]; exact h1, by rw [hb.block _ (by omega)]; exact h2⟩
theorem Recs.keptOff {F : Nat → Prop} {w w' : World} {p : Option Addr} {ls : List RecL} (h : Recs w p ls) (hk : Kept F w w') (hF : ∀ b off, p = some ⟨b, off, none⟩ → ¬ F b) : Recs w' p ls := by
  rcases h with h | ⟨b, off, hp, hlt, hc⟩
  · exact Or.inl h
  · exact Or.inr ⟨b, off, hp, Nat.lt_of_lt_of_le hlt hk.size, fun j hj => ⟨by rw [hk.cell (p := ⟨b, off + j * 2, none⟩) hlt (hF b off hp)]; exact (hc j hj).1, by rw [hk.cell (p := ⟨b, off + j * 2 + 1, none⟩) hlt (hF b off hp)]; exact (hc j hj).2⟩⟩
/-- the records lie in a block of records. -/
def RecT (w : World) (p : Option Addr) : Prop := ∀ b off, p = some ⟨b, off, none⟩ → ∃ cs fz, w.heap[b]? = some (.cells cs 66 fz)
theorem OwnR.recT {w : World} {B : Nat} {p : Option Addr} {n c : Nat} {ls : List RecL} (h : OwnR w B (.slice p n c) ls) : RecT w p := by
  intro b off hp
  obtain ⟨_, ⟨h1, _⟩ | ⟨g, cap, cur, h1, _, hh, _⟩⟩ := h
  · injection h1 with h1; rw [h1] at hp; cases hp
  · injection h1 with h1
    rw [h1] at hp
    injection hp with hp
    injection hp with hp
    subst hp
    exact ⟨cur, _, hh⟩
theorem RecT.kept {F : Nat → Prop} {w w' : World} {p : Option Addr} (h : RecT w p) (hk : Kept F w w') (hF : ∀ b off, p = some ⟨b, off, none⟩ → ¬ F b) : RecT w' p := by
  intro b off hp
  obtain ⟨cs, fz, hh⟩ := h b off hp
  exact ⟨cs, fz, (hk.block b (Array.getElem?_eq_some_iff.1 hh).1 (hF b off hp)).trans hh⟩
theorem RecT.below {w w' : World} {p : Option Addr} (h : RecT w p) (hb : Below w.heap.size w w') : RecT w' p := h.kept (F := fun _ => False) (Kept.of_below hb) fun _ _ _ e => e
/-- .. while a block of another type is written. -/
theorem RecT.off {w w' : World} {p : Option Addr} {row : Option Nat} {t : TypeId} (h : RecT w p) (_ : w.grownBy w' row) (ht : ∀ g, row = some g → ∃ cs fz, w.heap[g]? = some (.cells cs t fz)) (hne : t ≠ 66) : (∀ b off, p = some ⟨b, off, none⟩ → row ≠ some b) := by
  intro b off hp hr
  obtain ⟨cs, fz, hh⟩ := h b off hp
  obtain ⟨cs', fz', hh'⟩ := ht b hr
  rw [hh] at hh'
  injection hh' with hh'
  injection hh' with _ hh' _
  exact hne hh'.symm
/-- what own answers. -/
def RetOw (w : World) (r : RepL) (e : Ending) (w' : World) : Prop := ∃ p k, e = .returned (repV r p k) ∧ Recs w' p r.ls ∧ (p = none → k = 0) ∧ Below w.heap.size w w' ∧ (∀ b off, p = some ⟨b, off, none⟩ → w.heap.size ≤ b) ∧ RecT w' p
set_option maxHeartbeats 1000000 in
theorem own_any (r : RepL) (hl : r.ls.length ≤ 900000) (p : Option Addr) (cap : Nat) (w : World) (hp : Recs w p r.ls) (hpc : p = none → cap = 0) :
    Calls Try.prog 24 #[repV r p cap] w (RetOw w r) := by
  obtain ⟨c, s, er, fd, v, ls, nx, mr⟩ := r
  simp only at hl hp ⊢
  obtain ⟨W, hW⟩ : ∃ W, (w.alloc (.cells #[.int .i64 c, .int .i64 s, .int .i64 er, .bool fd, .string (strB v), .slice p ls.length cap, .string (strB nx), .bool mr] 33)).alloc (.cells #[.int .i64 0, .int .i64 0, .int .i64 0, .bool false, .string ⟨#[]⟩, .slice none 0 0, .string ⟨#[]⟩, .bool false] 33) = W := ⟨_, rfl⟩
  have hz : W.heap.size = w.heap.size + 2 := by rw [← hW]; simp
  have hbw : Below w.heap.size w W := by rw [← hW]; exact ((Below.refl _ _).alloc (Nat.le_refl _) _).alloc (by simp) _
  have CC := Lib.hid (cloneR_any ls hl p cap W (hp.below hbw) hpc)
  have HF := Lib.hid (show ∀ p' k' w', Recs w' p' ls → (p' = none → k' = 0) → Below w.heap.size w w' → (∀ b off, p' = some ⟨b, off, none⟩ → w.heap.size ≤ b) → RecT w' p' → RetOw w ⟨c, s, er, fd, v, ls, nx, mr⟩ (.returned (.agg #[.int .i64 c, .int .i64 s, .int .i64 er, .bool fd, .string (strB v), .slice p' ls.length k', .string (strB nx), .bool mr])) w' from fun p' k' w' h1 h2 h3 h4 h5 => ⟨p', k', rfl, h1, h2, h3, h4, h5⟩)
  unfold repV
  simp only
  obtain ⟨n, hn⟩ : ∃ n, ls.length = n := ⟨_, rfl⟩
  rw [hn] at CC HF hW ⊢
  have HB := Lib.hid hbw
  have HZ := Lib.hid hz
  have HN := Lib.hid hn
  generalize strB v = v at HF hW ⊢
  generalize strB nx = nx at HF hW ⊢
  have HC := Lib.hid (show ∀ wr, Below W.heap.size W wr → wr.heap[w.heap.size]? = some (.cells _ _ _) ∧ wr.heap[w.heap.size + 1]? = some (.cells _ _ _) from fun wr hb => two_blocks (w := w) (wr := wr) (by rw [hW, ← hz]; exact hb))
  clear hl hp hpc hn hbw hz
  go_enter Try.func24, Try.ntmps24
  go_upto_region 1 with fail
  clear hW
  have c5 := cell_at (HC.out W (Below.refl _ _)).1 5
  go_wp2_with fail
  refine CC.out.mono ?_
  rintro e w1 ⟨v1, rfl, ho1, hb1⟩
  obtain ⟨p1, k1, rfl, -, hpk, hr1⟩ := ho1.row
  rw [HN.out]
  have hlo := ho1.lt
  have HT1 := Lib.hid ho1.recT
  have HR1 := Lib.hid (And.intro hr1 (And.intro hpk (show ∀ b off, p1 = some ⟨b, off, none⟩ → w.heap.size + 2 ≤ b from fun b off e => by have := hlo b (by rw [e]; rfl); have := HZ.out; omega)))
  clear hlo
  have HB1 := Lib.hid (HB.out.trans (hb1.mono (by have := HZ.out; omega)))
  obtain ⟨hc, hd⟩ := HC.out w1 hb1
  have hlt := hb1.size
  clear c5 CC
  have c0 := cell_at hc 0
  have c1 := cell_at hc 1
  have c2 := cell_at hc 2
  have c3 := cell_at hc 3
  have c4 := cell_at hc 4
  have c5 := cell_at hc 5
  have c6 := cell_at hc 6
  have c7 := cell_at hc 7
  have d0 := cell_at hd 0
  have g0 := frozen_at hd 0
  have d1 := cell_at hd 1
  have g1 := frozen_at hd 1
  have d2 := cell_at hd 2
  have g2 := frozen_at hd 2
  have d3 := cell_at hd 3
  have g3 := frozen_at hd 3
  have d4 := cell_at hd 4
  have g4 := frozen_at hd 4
  have d5 := cell_at hd 5
  have g5 := frozen_at hd 5
  have d6 := cell_at hd 6
  have g6 := frozen_at hd 6
  have d7 := cell_at hd 7
  have g7 := frozen_at hd 7
  have f5 := frozen_at hc 5
  have hd' := (Below.heap_setCell w1 ⟨w.heap.size, 5, none⟩ (.slice p1 n k1) (w.heap.size + 1) (by show _ ≠ w.heap.size; omega)).trans hd
  have HD := Lib.hid hd'
  clear hc hd hd'
  go_wp2_with fail
  change bodyPost _ _ _ _ _ (sets (w1.setCell ⟨w.heap.size, 5, none⟩ (.slice p1 n k1)) (w.heap.size + 1) 0 [.int .i64 c, .int .i64 s, .int .i64 er, .bool fd, .string v, .slice p1 n k1, .string nx, .bool mr])
  have hk := ((Kept.set (w := w1) (F := fun b => b = w.heap.size ∨ b = w.heap.size + 1) (a := ⟨w.heap.size, 5, none⟩) (.slice p1 n k1) (Or.inl rfl)).trans (sets_kept (w.heap.size + 1) [.int .i64 c, .int .i64 s, .int .i64 er, .bool fd, .string v, .slice p1 n k1, .string nx, .bool mr] 0 _) fun k _ e => Or.inr e)
  have hb := sets_all [.int .i64 c, .int .i64 s, .int .i64 er, .bool fd, .string v, .slice p1 n k1, .string nx, .bool mr] HD.out rfl
  generalize sets _ _ _ _ = w2 at hk hb ⊢
  have c0 := cell_at hb 0
  have c1 := cell_at hb 1
  have c2 := cell_at hb 2
  have c3 := cell_at hb 3
  have c4 := cell_at hb 4
  have c5 := cell_at hb 5
  have c6 := cell_at hb 6
  have c7 := cell_at hb 7
  refine bodyPost_ret (v := .agg #[.int .i64 c, .int .i64 s, .int .i64 er, .bool fd, .string v, .slice p1 n k1, .string nx, .bool mr]) (by simp [results, Try.results24, go_sem, c0, c1, c2, c3, c4, c5, c6, c7]) rfl ?_
  exact HF.out _ _ _ (HR1.out.1.keptOff hk fun b off e => by have := HR1.out.2.2 b off e; omega) HR1.out.2.1 (HB1.out.trans (hk.below (B := w.heap.size) (fun k hk => by omega) HB1.out.size)) (fun b off e => by have := HR1.out.2.2 b off e; omega) (HT1.out.kept hk fun b off e => by have := HR1.out.2.2 b off e; omega)
end Go.Proofs.Ytjlkfoaccllflaa
