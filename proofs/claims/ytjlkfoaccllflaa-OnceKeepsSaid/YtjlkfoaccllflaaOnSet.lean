/-
  Layer once: All, Set.
-/
import Derived.Test.YtjlkfoaccllflaaOnBy
import Derived.Test.YtjlkfoaccllflaaOnNote
import Derived.Test.YtjlkfoaccllflaaOnSee
namespace Go.Proofs.Ytjlkfoaccllflaa
open Go.RowKit Go.Gz Go.Maps

theorem all_any (w : World) (T : Nat) (mb : Option Nat) (L : List Ent) (h : TabAt w T mb L) (hL : L.length ≤ 10000) :
    Calls Try.prog 16 #[.pointer (some ⟨T, 0, none⟩)] w (RetE 51 w (semL L)) := by
  have CB := Lib.hid (by_any w mb L h.m h.e hL)
  have c0 := h.c0
  clear h hL
  go_enter Try.func16, Try.ntmps16
  go_wp2_with (go_at_call 21; refine CB.out.mono ?_; rintro e w1 ⟨v, M, rfl, hr⟩)
  go_ret
  exact ⟨v, M, rfl, hr⟩

/-- a table is told by what it holds, behind W. -/
structure Tab (W : World) (T : Nat) (S : List (Int × RepL)) (n : Nat) (w : World) : Prop where
  at_ : ∃ mb L, TabAt w T mb L ∧ semL L = S ∧ L.length ≤ n ∧ ∀ b, mb = some b → W.heap.size ≤ b
  kept : Kept (fun i => i = T) W w
  lt : T < W.heap.size
theorem Tab.below {W : World} {T : Nat} {S : List (Int × RepL)} {n : Nat} {w w' : World} (h : Tab W T S n w) (hb : Below w.heap.size w w') : Tab W T S n w' := by
  obtain ⟨mb, L, h1, h2, h3, h4⟩ := h.at_
  exact ⟨⟨mb, L, h1.below hb, h2, h3, h4⟩, h.kept.trans (Kept.of_below hb (F := fun _ => False)) fun _ _ e => e.elim, h.lt⟩
theorem Tab.start {W w : World} {T : Nat} (h : TabAt w T none []) (hk : Kept (fun i => i = T) W w) (hlt : T < W.heap.size) : Tab W T [] 0 w := ⟨⟨none, [], h, rfl, Nat.le_refl _, fun b e => by cases e⟩, hk, hlt⟩
theorem noteS_len {S : List (Int × RepL)} {r : RepL} : (noteS S r).length ≤ S.length + 1 := by unfold noteS; split; exact length_putK; omega
/-- Note, told. -/
theorem note_tab {W w : World} {T : Nat} {S : List (Int × RepL)} {n : Nat} (h : Tab W T S n w) (hn : n ≤ 1000000) (r : RepL) (p : Option Addr) (cap : Nat) (hp : Recs w p r.ls) (hl : r.ls.length ≤ 300) (hpc : p = none → cap = 0) (hwf : (Lit.int .i64 r.c).wf = true) :
    Calls Try.prog 14 #[.pointer (some ⟨T, 0, none⟩), repV r p cap] w fun e w' => e = .returned (.bool (newS S r)) ∧ Tab W T (noteS S r) (n + 1) w' ∧ Kept (fun i => i = T ∨ W.heap.size ≤ i) w w' := by
  obtain ⟨mb, L, h1, rfl, h3, h4⟩ := h.at_
  refine (note_any w T mb L h1 (by omega) r p cap hp hl hpc hwf).mono ?_
  rintro e w' ⟨rfl, mb', p', k', ht, hk, hb⟩
  have hk' : Kept (fun i => i = T ∨ W.heap.size ≤ i) w w' := hk.mono fun i _ e => by
    rcases e with rfl | e
    · exact Or.inl rfl
    · exact Or.inr (h4 i e)
  refine ⟨by rw [newB_sem], ⟨⟨mb', _, ht, note_sem rfl, by have := length_note (L := L) (x := ⟨r.s, r, p', k'⟩); omega, fun b e => ?_⟩, h.kept.trans hk' fun i hi e => ?_, h.lt⟩, hk'⟩
  · rcases hb b e with e | e
    · exact h4 b e
    · have := h.kept.size; omega
  · rcases e with rfl | e
    · rfl
    · omega
theorem see_tab {W w : World} {T : Nat} {S : List (Int × RepL)} {n : Nat} (h : Tab W T S n w) (c s : Int) (hc : (Lit.int .i64 c).wf = true) :
    Calls Try.prog 15 #[.pointer (some ⟨T, 0, none⟩), .int .i64 c, .int .i64 s] w fun e w' => ∃ L, semL L = S ∧ RetSee w L c s e w' := by
  obtain ⟨mb, L, h1, rfl, h3, h4⟩ := h.at_
  exact (see_any w T mb L h1 c s hc).mono fun e w' hr => ⟨L, rfl, hr⟩
theorem all_tab {W w : World} {T : Nat} {S : List (Int × RepL)} {n : Nat} (h : Tab W T S n w) (hn : n ≤ 10000) :
    Calls Try.prog 16 #[.pointer (some ⟨T, 0, none⟩)] w (RetE 51 w S) := by
  obtain ⟨mb, L, h1, rfl, h3, h4⟩ := h.at_
  exact all_any w T mb L h1 (by omega)

/-- a block without a number. -/
theorem TabAt.noInt {w : World} {T : Nat} {mb : Option Nat} {L : List Ent} (h : TabAt w T mb L) : ∀ o k x, w.cell? ⟨T, o, none⟩ ≠ some (.int k x) := fun o k x hc => by
  simp only [World.cell?, h.c] at hc
  cases o with
  | zero => simp at hc
  | succ o => simp at hc
theorem RowE.keptInt {w w' : World} {F : Nat → Prop} {p : Option Addr} {X : List Ent} (h : RowE w p X) (hk : Kept F w w') (hF : ∀ i, F i → ∀ o k x, w.cell? ⟨i, o, none⟩ ≠ some (.int k x)) : RowE w' p X := by
  by_cases h0 : X.length = 0
  · exact Or.inl (List.eq_nil_of_length_eq_zero h0)
  rcases h with h | ⟨b, off, hp, hlt, hc⟩
  · exact Or.inl h
  · have hnf : ¬ F b := fun hf => hF b hf _ _ _ (hc 0 (by omega) 0 (by omega))
    exact Or.inr ⟨b, off, hp, Nat.lt_of_lt_of_le hlt hk.size, fun j hj i hi => by rw [hk.cell (p := ⟨b, off + j * 9 + i, none⟩) hlt hnf]; exact hc j hj i hi⟩
def notesS (X : List RepL) : List (Int × RepL) := X.foldl noteS []
theorem notesS_snoc (X : List RepL) (k : Nat) (h : k < X.length) : notesS (X.take (k + 1)) = noteS (notesS (X.take k)) (X.getD k default) := by
  rw [List.take_succ_eq_append_getElem h]
  unfold notesS
  rw [List.foldl_append]
  simp [List.getD, h]
structure StI (w W : World) (T : Nat) (X : List Ent) (k : Nat) (wr : World) : Prop where
  tab : Tab W T (notesS ((X.map Ent.r).take k)) k wr
  kept : Kept (fun i => i = T) w wr

set_option maxHeartbeats 4000000 in
set_option maxRecDepth 100000 in
theorem set_any (w : World) (T : Nat) (mb : Option Nat) (L : List Ent) (h : TabAt w T mb L) (X : List Ent) (p : Option Addr) (cap : Nat) (hrow : RowE w p X) (hX : EntsIn w X) (hn : X.length ≤ 1000) :
    Calls Try.prog 17 #[.pointer (some ⟨T, 0, none⟩), .slice p X.length cap] w fun e w' => e = .returned (.tuple #[]) ∧ ∃ W, Tab W T (notesS (X.map Ent.r)) X.length w' ∧ w.heap.size ≤ W.heap.size ∧ Kept (fun i => i = T) w w' := by
  obtain ⟨W, hW⟩ : ∃ W, w.setCell ⟨T, 0, none⟩ (.map none) = W := ⟨_, rfl⟩
  have hk0 : Kept (fun i => i = T) w W := hW ▸ Kept.set (F := fun i => i = T) (.map none) rfl
  have hTW : TabAt W T none [] := ⟨by rw [← hW]; exact set_block h.c 0 _, Or.inl ⟨rfl, rfl⟩, (fun e he => by cases he), fun e he => by cases he⟩
  have c0 := h.c0
  have f0 := h.f0
  have HT := Lib.hid h
  have HR := Lib.hid hrow
  have HX := Lib.hid hX
  have HK0 := Lib.hid hk0
  have HS := Lib.hid (show StI w W T X 0 W from ⟨Tab.start hTW (Kept.refl _ _) (by have := h.lt; have := hk0.size; omega), hk0⟩)
  obtain ⟨n, hN⟩ : ∃ n, X.length = n := ⟨_, rfl⟩
  have HN := Lib.hid hN
  have hnb : (n : Int) ≤ 1000 := by omega
  have HF := Lib.hid (show ∀ w', StI w W T X n w' → (∃ W, Tab W T (notesS (X.map Ent.r)) n w' ∧ w.heap.size ≤ W.heap.size ∧ Kept (fun i => i = T) w w') from fun w' hs => ⟨W, by
    have := hs.tab
    rw [List.take_of_length_le (by rw [List.length_map]; omega)] at this
    exact this, hk0.size, hs.kept⟩)
  have HW := Lib.hid hW
  rw [hN]
  clear hN hk0 hTW hrow hX h hn hW
  go_enter Try.func17, Try.ntmps17
  go_upto_region 2 with fail
  rw [HW.out]
  clear c0 f0 HW
  go_wp2_with fail
  go_loopw [13] (fun i wr => ∃ k : Nat, i = .int .i64 k ∧ k ≤ n ∧ Hid (StI w W T X k wr)) (fun i _ => n - (intOf i).toNat)
  case atStart => exact ⟨0, rfl, Nat.zero_le _, HS⟩
  case round =>
    obtain ⟨k, rfl, hkn, HI⟩ := hrel
    rcases Nat.lt_or_ge k n with hk | hk
    · have hkz : (k : Int) < (n : Int) := by omega
      have hklt : k < X.length := by rw [HN.out]; exact hk
      obtain ⟨e, he⟩ : ∃ e, X.getD k default = e := ⟨_, rfl⟩
      have hmem : e ∈ X := by rw [← he]; simp [List.getD, hklt]
      have hin := (HX.out e hmem).kept HI.out.kept (fun i hi => hi ▸ HT.out.noText)
      have hrw : RowE wr p X := HR.out.keptInt HI.out.kept (fun i hi => hi ▸ HT.out.noInt)
      obtain ⟨pb, po, rfl, -, hcell⟩ := ent_cells hrw (Below.refl _ _) hklt
      rw [he] at hcell
      have HTK := Lib.hid (notesS_snoc (X.map Ent.r) k (by rw [List.length_map]; exact hklt))
      rw [show (X.map Ent.r).getD k default = e.r by rw [← he]; simp [List.getD, hklt]] at HTK
      obtain ⟨es, er, ep, ek⟩ := e
      have z0 := hcell 0 (by decide)
      have z1 := hcell 1 (by decide)
      have z2 := hcell 2 (by decide)
      have z3 := hcell 3 (by decide)
      have z4 := hcell 4 (by decide)
      have z5 := hcell 5 (by decide)
      have z6 := hcell 6 (by decide)
      have z7 := hcell 7 (by decide)
      have z8 := hcell 8 (by decide)
      simp only [Ent.list, Nat.add_zero] at z0 z1 z2 z3 z4 z5 z6 z7 z8
      obtain ⟨W1, hW1⟩ : ∃ W1, wr.alloc (.cells #[.int .i64 es, .int .i64 er.c, .int .i64 er.s, .int .i64 er.e, .bool er.fd, .string (strB er.v), .slice ep er.ls.length ek, .string (strB er.nx), .bool er.mr] 51) = W1 := ⟨_, rfl⟩
      have hb1 : Below wr.heap.size wr W1 := hW1 ▸ (Below.refl _ _).alloc (Nat.le_refl _) _
      have hy : W1.heap[wr.heap.size]? = some (.cells #[.int .i64 es, .int .i64 er.c, .int .i64 er.s, .int .i64 er.e, .bool er.fd, .string (strB er.v), .slice ep er.ls.length ek, .string (strB er.nx), .bool er.mr] 51 (0, 0)) := hW1 ▸ new_block _ _ _
      have CN := Lib.hid (note_tab (HI.out.tab.below hb1) (by omega) er ep ek (hin.rs.below hb1) (by have := hin.few; exact this) hin.pc hin.wf)
      unfold repV at CN
      have HKB := Lib.hid (show Kept (fun i => i = T) w W1 from HI.out.kept.trans (Kept.of_below hb1 (F := fun _ => False)) fun _ _ e => e.elim)
      have HLW := Lib.hid (show ∀ i, i < w.heap.size → W.heap.size ≤ i → False from fun i h1 h2 => by have := HK0.out.size; omega)
      have HW1 := Lib.hid hW1
      have HY := Lib.hid hy
      clear hW1 hb1 hy hcell hrw hin hmem he
      go_upto_region 5 with fail
      rw [HW1.out]
      have y1 := cell_at HY.out 1
      have y2 := cell_at HY.out 2
      have y3 := cell_at HY.out 3
      have y4 := cell_at HY.out 4
      have y5 := cell_at HY.out 5
      have y6 := cell_at HY.out 6
      have y7 := cell_at HY.out 7
      have y8 := cell_at HY.out 8
      clear z0 z1 z2 z3 z4 z5 z6 z7 z8
      go_wp2_with (go_at_call 14; refine CN.out.mono ?_; rintro e w2 ⟨rfl, htab, hkk⟩)
      refine ⟨⟨k + 1, by go_num, hk, Lib.hid ⟨by rw [HTK.out]; exact htab, HKB.out.trans hkk fun i hi e => ?_⟩⟩, by simp [intOf]; omega⟩
      rcases e with rfl | e
      · rfl
      · exact (HLW.out i hi e).elim
    · have hkz : ¬ (k : Int) < (n : Int) := by omega
      have hke : k = n := by omega
      have HQ := Lib.hid (HF.out _ (hke ▸ HI.out))
      clear hke HI
      go_wp2_with fail
      exact bodyPost_end (v := .tuple #[]) (by simp [results, Try.results17]) rfl ⟨rfl, HQ.out⟩
end Go.Proofs.Ytjlkfoaccllflaa
