/-
  Layer parcel: records are read.
-/
import Derived.Test.YtiohhnmhkllgdaaPcRdAsk
namespace Go.Proofs.Ytiohhnmhkllgdaa
open Go.RowKit

/-- as many as n read one behind the other: what is left, and what they are. -/
def iterR {α : Type} (C : Codec α) : Nat → St → St
  | 0, s => s
  | n + 1, s => iterR C n (rdR C s)
def valsR {α : Type} (C : Codec α) (d : α) : Nat → St → List α
  | 0, _ => []
  | n + 1, s => rdV C d s :: valsR C d n (rdR C s)
theorem iterR_err {α : Type} (C : Codec α) (e : Nat) : ∀ n, iterR C n (.error e) = .error e
  | 0 => rfl
  | n + 1 => iterR_err C e n
theorem iter_dec {α : Type} (C : Codec α) (d : α) : ∀ (n : Nat) (b : List UInt8), (∃ l r, decR C n b = .ok (l, r) ∧ iterR C n (.ok b) = .ok r ∧ valsR C d n (.ok b) = l) ∨ (∃ e, decR C n b = .error e ∧ iterR C n (.ok b) = .error e)
  | 0, b => Or.inl ⟨[], b, rfl, rfl, rfl⟩
  | n + 1, b => by
    cases hd : C.dec b with
    | error e =>
      refine Or.inr ⟨e, by unfold decR; rw [hd], ?_⟩
      show iterR C n (rdR C (.ok b)) = _
      rw [rdR_no hd]; exact iterR_err C e n
    | ok x =>
      obtain ⟨x, r⟩ := x
      rcases iter_dec C d n r with ⟨l, s, h1, h2, h3⟩ | ⟨e, h1, h2⟩
      · refine Or.inl ⟨x :: l, s, by unfold decR; rw [hd]; simp only; rw [h1], ?_, ?_⟩
        · show iterR C n (rdR C (.ok b)) = _
          rw [rdR_ok hd]; exact h2
        · show rdV C d (.ok b) :: valsR C d n (rdR C (.ok b)) = _
          rw [rdR_ok hd, rdV_ok hd, h3]
      · refine Or.inr ⟨e, by unfold decR; rw [hd]; simp only; rw [h1], ?_⟩
        show iterR C n (rdR C (.ok b)) = _
        rw [rdR_ok hd]; exact h2
theorem list_seq {α : Type} (C : Codec α) (d : α) (st : St) : rdR (Codec.list C) st = iterR C (rdV numC 0 st) (rdR numC st) ∧ (∀ r, rdR (Codec.list C) st = .ok r → rdV (Codec.list C) [] st = valsR C d (rdV numC 0 st) (rdR numC st)) := by
  cases st with
  | error e => exact ⟨rfl, fun r h => by cases h⟩
  | ok b =>
    cases hn : numC.dec b with
    | error e =>
      have h : (Codec.list C).dec b = .error e := by
        show decL C b = _
        unfold decL
        rw [show decN b = .error e from hn]
      rw [rdR_no h, rdR_no hn, rdV_no hn]
      exact ⟨rfl, fun r h => by cases h⟩
    | ok x =>
      obtain ⟨n, r⟩ := x
      rw [rdR_ok hn, rdV_ok hn]
      rcases iter_dec C d n r with ⟨l, s, h1, h2, h3⟩ | ⟨e, h1, h2⟩
      · have h : (Codec.list C).dec b = .ok (l, s) := by
          show decL C b = _
          unfold decL
          rw [show decN b = .ok (n, r) from hn]
          exact h1
        rw [rdR_ok h, rdV_ok h, h2, h3]
        exact ⟨rfl, fun _ _ => rfl⟩
      · have h : (Codec.list C).dec b = .error e := by
          show decL C b = _
          unfold decL
          rw [show decN b = .ok (n, r) from hn]
          exact h1
        rw [rdR_no h, h2]
        exact ⟨rfl, fun r h => by cases h⟩

def recC : Codec RecL := textC.pair textC
theorem decT_len {b t r : List UInt8} (h : decT b = .ok (t, r)) : r.length + 4 ≤ b.length := by
  unfold decT at h
  cases hd : decN b with
  | error e => rw [hd] at h; cases h
  | ok x =>
    obtain ⟨n, s⟩ := x
    rw [hd] at h
    simp only at h
    by_cases hs : s.length < n
    · rw [if_pos hs] at h; cases h
    · rw [if_neg hs] at h
      injection h with h
      injection h with _ h
      unfold decN at hd
      by_cases h4 : b.length < 4
      · rw [if_pos h4] at hd; cases hd
      · rw [if_neg h4] at hd
        by_cases h5 : 268435456 ≤ numL (b.take 4)
        · rw [if_pos h5] at hd; cases hd
        · rw [if_neg h5] at hd
          injection hd with hd
          injection hd with _ hd
          rw [← h, ← hd]
          simp only [List.length_drop]; omega
theorem recs_short {b r : List UInt8} (h : rdR recC (.ok b) = .ok r) : r.length + 1 ≤ b.length := by
  cases h1 : textC.dec b with
  | error e =>
    have : recC.dec b = .error e := by show decP textC textC b = _; unfold decP; rw [h1]
    rw [rdR_no this] at h; cases h
  | ok x =>
    obtain ⟨x, s⟩ := x
    cases h2 : textC.dec s with
    | error e =>
      have : recC.dec b = .error e := by show decP textC textC b = _; unfold decP; rw [h1]; simp only; rw [h2]
      rw [rdR_no this] at h; cases h
    | ok y =>
      obtain ⟨y, u⟩ := y
      have : recC.dec b = .ok ((x, y), u) := by show decP textC textC b = _; unfold decP; rw [h1]; simp only; rw [h2]
      rw [rdR_ok this] at h
      injection h with h
      subst h
      have := decT_len h1
      have := decT_len h2
      omega

theorem info_rec : (Try.prog.info? 65).map (fun i => (i.zero, i.size, i.bytes)) = some (some (.agg #[.string ⟨#[]⟩, .string ⟨#[]⟩]), 2, 32) := by kernel_rfl
def flatR (ls : List RecL) : List Value := ls.flatMap fun s => [Value.string (strB s.1), Value.string (strB s.2)]
theorem flatR_at (ls : List RecL) : ∀ j, j < ls.length → (flatR ls)[j * 2]? = some (.string (strB (ls.getD j ([], [])).1)) ∧ (flatR ls)[j * 2 + 1]? = some (.string (strB (ls.getD j ([], [])).2)) := by
  induction ls with
  | nil => intro j hj; simp at hj
  | cons s r ih =>
    intro j hj
    cases j with
    | zero => exact ⟨rfl, rfl⟩
    | succ j =>
      have := ih j (by simpa using hj)
      rw [show (j + 1) * 2 = j * 2 + 2 by omega]
      simpa [flatR] using this
/-- v is a row of records that the call owns. -/
def OwnR (w : World) (B : Nat) (v : Value) (ls : List RecL) : Prop := w.ownsRow B 65 2 v ls.length (flatR ls)
theorem OwnR.nil (w : World) (B : Nat) : OwnR w B (.slice none 0 0) [] := World.ownsRow_nil w B _ 2
theorem OwnR.row {w : World} {B : Nat} {v : Value} {ls : List RecL} (h : OwnR w B v ls) : ∃ p c, v = .slice p ls.length c ∧ ls.length ≤ c ∧ (p = none → c = 0) ∧ Recs w p ls := by
  obtain ⟨h1, ⟨rfl, h0⟩ | ⟨g, cap, cur, rfl, hg, hh, hc, hm, hs, ht⟩⟩ := h
  · have : ls = [] := List.eq_nil_of_length_eq_zero h0
    subst this
    exact ⟨none, 0, rfl, Nat.le_refl _, fun _ => rfl, Or.inl rfl⟩
  · refine ⟨_, cap, rfl, hc, (fun h => by cases h), Or.inr ⟨g, 0, rfl, (Array.getElem?_eq_some_iff.1 hh).1, fun j hj => ?_⟩⟩
    obtain ⟨a1, a2⟩ := flatR_at ls j hj
    have e : ∀ i, i < ls.length * 2 → cur[i]? = (flatR ls)[i]? := fun i hi => by
      rw [← ht, List.getElem?_take, if_pos hi, Array.getElem?_toList]
    simp only [World.cell?, hh, Nat.zero_add]
    exact ⟨by show cur[j * 2]? = _; rw [e _ (by omega)]; exact a1, by show cur[j * 2 + 1]? = _; rw [e _ (by omega)]; exact a2⟩
theorem OwnR.alloc {w : World} {B : Nat} {v : Value} {ls : List RecL} (h : OwnR w B v ls) (o : Obj) : OwnR (w.alloc o) B v ls := World.ownsRow.alloc h o
theorem OwnR.lt {w : World} {B : Nat} {v : Value} {ls : List RecL} (h : OwnR w B v ls) : ∀ g, v.ownBlock = some g → B ≤ g := fun g hg => (World.ownsRow.lt h g hg).1
theorem OwnR.chg {w w' : World} {B g : Nat} {v : Value} {ls : List RecL} (h : OwnR w B v ls) (hc : Chg g w w') (hg : g < B) : OwnR w' B v ls := by
  obtain ⟨h1, h2⟩ := h
  refine ⟨h1, ?_⟩
  rcases h2 with h2 | ⟨b, cap, cur, e, hb, hh, r⟩
  · exact Or.inl h2
  · exact Or.inr ⟨b, cap, cur, e, hb, by rw [hc.block b (Array.getElem?_eq_some_iff.1 hh).1 (by omega)]; exact hh, r⟩
theorem OwnR.below {w w' : World} {B : Nat} {v : Value} {ls : List RecL} (h : OwnR w B v ls) (hb : Below w.heap.size w w') : OwnR w' B v ls := by
  obtain ⟨h1, h2⟩ := h
  refine ⟨h1, ?_⟩
  rcases h2 with h2 | ⟨b, cap, cur, e, hg, hh, r⟩
  · exact Or.inl h2
  · exact Or.inr ⟨b, cap, cur, e, hg, by rw [hb.block b (Array.getElem?_eq_some_iff.1 hh).1]; exact hh, r⟩

/-- append of one record. -/
theorem wpList_push_rec {w : World} {ops : Array Oper} {rest : List Oper} {o : Oper} {a : Act} {Q : Exit → Act → World → Prop}
    (hg : o.guard = none) (s x : Operand) (hop : o.op = Op.call { callee := Callee.builtin Builtin.append, args := #[s, x], argTypes := #[35, 35] })
    (B : Nat) (v : Value) (ls : List RecL) (hs : a.eval s = v) (hown : OwnR w B v ls)
    (G c : Nat) (y : RecL) (hx : a.eval x = .slice (some ⟨G, 0, none⟩) 1 c) (hc0 : w.cell? ⟨G, 0, none⟩ = some (.string (strB y.1))) (hc1 : w.cell? ⟨G, 1, none⟩ = some (.string (strB y.2)))
    (hlen : ls.length ≤ 1000000) (hB : B ≤ w.heap.size)
    (hK : ∀ v' w', OwnR w' B v' (ls ++ [y]) → w.grownBy w' v.ownBlock → wpList Try.prog ops Q rest (a.put o.dst v') w') :
    wpList Try.prog ops Q (o :: rest) a w := by
  obtain ⟨i0, hi, hz0, hz1, hz2⟩ := info_parts info_rec
  refine wpList_append_own w hg s x 35 hop B 65 i0 (.agg #[.string ⟨#[]⟩, .string ⟨#[]⟩]) 2 32 Try.underlying35 hi hz0 hz1 hz2 rfl (by decide) v ls.length (flatR ls) hs hown ⟨G, 0, none⟩ 1 c [.string (strB y.1), .string (strB y.2)] hx rfl ?_ ?_ (by unfold maxLen; omega) (by omega) hB ?_
  · intro j u hj
    rw [Addr.add_lit, Nat.zero_add]
    match j, hj with
    | 0, hj => simp at hj; subst hj; exact hc0
    | 1, hj => simp at hj; subst hj; exact hc1
    | j + 2, hj => simp at hj
  · intro u hu
    simp only [List.mem_cons, List.not_mem_nil, or_false] at hu
    rcases hu with rfl | rfl <;> rfl
  · intro v' w' ho hgr _
    refine hK v' w' ?_ hgr
    unfold OwnR
    rw [List.length_append, show flatR (ls ++ [y]) = flatR ls ++ [.string (strB y.1), .string (strB y.2)] by simp [flatR]]
    exact ho

theorem RdAt.grown {w w' : World} {g : Nat} {st : St} {row : Option Nat} (h : RdAt w g st) (hg : w.grownBy w' row) (hr : some g ≠ row) : RdAt w' g st := ⟨h.bd, by rw [hg.block g h.lt hr]; exact h.at_⟩

/-- what records answers. -/
def RetRc (w : World) (g : Nat) (st : St) (e : Ending) (w' : World) : Prop :=
  ∃ v ls, e = .returned v ∧ OwnR w' w.heap.size v ls ∧ RdAt w' g (rdR (Codec.list recC) st) ∧ Chg g w w' ∧ (∀ r, rdR (Codec.list recC) st = .ok r → ls = rdV (Codec.list recC) [] st)

structure RcI (w : World) (g : Nat) (F : St) (L : List RecL) (N : Nat) (v : Value) (m : Nat) (wr : World) (s : St) (ls : List RecL) : Prop where
  own : OwnR wr w.heap.size v ls
  rd : RdAt wr g s
  ch : Chg g w wr
  it : iterR recC m s = F
  vs : ∀ r, F = .ok r → ls ++ valsR recC ([], []) m s = L
  bd : ls.length + (restS s).length ≤ N + 1
  lt : (∃ b, s = .ok b) → ls.length + (restS s).length ≤ N

set_option maxHeartbeats 4000000 in
theorem records_any (w : World) (g : Nat) (st : St) (h : RdAt w g st) (hl : (restS st).length ≤ 100000) :
    Calls Try.prog 30 #[.pointer (some ⟨g, 0, none⟩)] w (RetRc w g st) := by
  obtain ⟨hS, hV⟩ := list_seq recC ([], []) st
  have HF := Lib.hid (show ∀ v ls w', OwnR w' w.heap.size v ls → RdAt w' g (rdR (Codec.list recC) st) → Chg g w w' → (∀ r, rdR (Codec.list recC) st = .ok r → ls = rdV (Codec.list recC) [] st) → RetRc w g st (.returned v) w' from fun v ls w' h1 h2 h3 h4 => ⟨v, ls, rfl, h1, h2, h3, h4⟩)
  have hgl := h.lt
  have CN := Lib.hid (number_any w g st h)
  obtain ⟨F, hF⟩ : ∃ F, rdR (Codec.list recC) st = F := ⟨_, rfl⟩
  obtain ⟨L, hL⟩ : ∃ L, rdV (Codec.list recC) [] st = L := ⟨_, rfl⟩
  obtain ⟨N, hN⟩ : ∃ N, (restS st).length = N := ⟨_, rfl⟩
  obtain ⟨n, hn⟩ : ∃ n, rdV numC 0 st = n := ⟨_, rfl⟩
  obtain ⟨S, hS1⟩ : ∃ S, rdR numC st = S := ⟨_, rfl⟩
  have hSn : (restS S).length ≤ N := by
    rw [← hS1, ← hN]
    rcases rd_num st with ⟨_, _, h3⟩ | ⟨_, _, h3⟩
    · rw [h3]
      cases st with
      | error e => exact Nat.le_refl _
      | ok b =>
        by_cases h4 : 4 ≤ b.length
        · rw [show takeR (.ok b) 4 = .ok (b.drop 4) from if_pos h4]; simp [restS]
        · rw [show takeR (.ok b) 4 = .error 7 from if_neg h4]; exact Nat.zero_le _
    · rw [h3]; exact Nat.zero_le _
  have hnb : n ≤ 268435455 := hn ▸ rdV_num_le st
  rw [hF] at HF hS hV
  rw [hL] at HF hV
  rw [hn, hS1] at CN hS hV
  have HS := Lib.hid hS
  have HV := Lib.hid hV
  have HNL := Lib.hid (show N ≤ 100000 by omega)
  have HSN := Lib.hid hSn
  clear h hS hV hF hL hN hn hS1 hl hSn
  go_enter Try.func30, Try.ntmps30
  go_wp2_with fail
  refine CN.out.mono ?_
  rintro e w1 ⟨rfl, hr1, hc1⟩
  have HI := Lib.hid (show RcI w g F L N (.slice none 0 0) n w1 S [] from ⟨OwnR.nil _ _, hr1, hc1, HS.out.symm, fun r hr => by rw [List.nil_append]; exact (HV.out r hr).symm, by have := HSN.out; simp only [List.length_nil]; omega, fun _ => by have := HSN.out; simp only [List.length_nil]; omega⟩)
  clear hr1 hc1 HS HV HSN CN
  go_wp2_with fail
  go_loopw [3, 4] (fun v i wr => ∃ (m : Nat) (s : St) (ls : List RecL), i = .int .i64 m ∧ m ≤ 268435455 ∧ Hid (RcI w g F L N v m wr s ls)) (fun _ i _ => (intOf i).toNat)
  case atStart => exact ⟨n, S, [], rfl, hnb, HI⟩
  case round =>
    obtain ⟨m, s, ls, rfl, hmb, HR⟩ := hrel
    have hat := HR.out.rd.at_
    have c1 := cell_at hat 1
    clear hat
    by_cases hm : m = 0
    · subst hm
      have HP := Lib.hid (HF.out _ ls wr HR.out.own (by have := HR.out.rd; rw [show s = F from HR.out.it] at this; exact this) HR.out.ch (fun r hr => by have := HR.out.vs r hr; rw [show valsR recC ([], []) 0 s = [] from rfl, List.append_nil] at this; exact this))
      obtain ⟨q, d, rfl, -⟩ := HR.out.own.row
      go_wp2_with fail
      go_ret
      exact HP.out
    · have hmz : decide ((m : Int) > 0) = true := by simp; omega
      cases s with
      | error e0 =>
        have h0 := HR.out.rd.bd e0 rfl
        have h0z : ((e0 : Int) == 0) = false := by simp; omega
        simp only [errS] at c1
        have hFe : F = .error e0 := by rw [← HR.out.it]; exact iterR_err _ _ _
        have HP := Lib.hid (HF.out _ ls wr HR.out.own (by rw [hFe]; exact HR.out.rd) HR.out.ch (fun r hr => by rw [hFe] at hr; cases hr))
        obtain ⟨q, d, rfl, -⟩ := HR.out.own.row
        clear h0 hFe
        go_wp2_with fail
        go_ret
        exact HP.out
      | ok b =>
        simp only [errS] at c1
        have C1 := Lib.hid (text_any wr g (.ok b) HR.out.rd)
        have C2 := Lib.hid (fun w2 h2 => text_any w2 g (rdR textC (.ok b)) h2)
        have hlt := HR.out.lt ⟨b, rfl⟩
        have hbl : (restS (.ok b)).length = b.length := rfl
        rw [hbl] at hlt
        have hpr := rdR_pair textC textC (.ok b)
        have hsh : ∀ r, rdR recC (.ok b) = .ok r → r.length + 1 ≤ b.length := fun r hr => recs_short hr
        have hvp : ∀ r, rdR recC (.ok b) = .ok r → rdV recC ([], []) (.ok b) = (rdV textC [] (.ok b), rdV textC [] (rdR textC (.ok b))) := fun r hr => rdV_pair textC textC ([], []) (.ok b) hr
        have hit := HR.out.it
        have hvs := HR.out.vs
        obtain ⟨m', rfl⟩ : ∃ m', m = m' + 1 := ⟨m - 1, by omega⟩
        rw [show iterR recC (m' + 1) (.ok b) = iterR recC m' (rdR recC (.ok b)) from rfl] at hit
        rw [show valsR recC ([], []) (m' + 1) (.ok b) = rdV recC ([], []) (.ok b) :: valsR recC ([], []) m' (rdR recC (.ok b)) from rfl] at hvs
        obtain ⟨S2, hS2⟩ : ∃ S2, rdR recC (.ok b) = S2 := ⟨_, rfl⟩
        rw [show rdR (textC.pair textC) (.ok b) = rdR recC (.ok b) from rfl] at hpr
        rw [hS2] at hit hvs hpr hsh hvp
        obtain ⟨t1, ht1⟩ : ∃ t1, rdV textC [] (.ok b) = t1 := ⟨_, rfl⟩
        obtain ⟨t2, ht2⟩ : ∃ t2, rdV textC [] (rdR textC (.ok b)) = t2 := ⟨_, rfl⟩
        rw [ht1] at C1 hvp
        rw [ht2] at C2 hvp
        rw [← hpr] at C2
        have HQ := Lib.hid (And.intro hit (And.intro hvs (And.intro hsh hvp)))
        have HLT := Lib.hid hlt
        clear hlt hbl hpr hsh hvp hit hvs hS2 ht1 ht2 hm
        obtain ⟨q, d, rfl, -⟩ := HR.out.own.row
        obtain ⟨k, hk⟩ : ∃ k, ls.length = k := ⟨_, rfl⟩
        have HOW := Lib.hid (hk ▸ HR.out.own)
        rw [hk]
        have HK := Lib.hid hk
        clear hk
        go_wp2_with fail
        refine C1.out.mono ?_
        rintro e w2 ⟨rfl, hr2, hc2⟩
        have HC2 := Lib.hid hc2
        have C3 := Lib.hid (C2.out w2 hr2)
        clear hr2 hc2
        go_wp2_with fail
        refine C3.out.mono ?_
        rintro e w3 ⟨rfl, hr3, hc3⟩
        have HC3 := Lib.hid (HC2.out.trans hc3)
        have HR3 := Lib.hid hr3
        have HO3 := Lib.hid (OwnR.chg HOW.out HC3.out (by have := HR.out.rd; have := HR.out.ch; omega))
        clear hr3 hc3
        have hz3 : w.heap.size ≤ w3.heap.size := by have := HC3.out.size; have := HR.out.ch.size; omega
        have hsz4 : w.heap.size ≤ (w3.alloc (.cells #[.string (strB t1), .string (strB t2)] 65)).heap.size := by simp; omega
        have hls : ls.length ≤ 1000000 := by have := HLT.out; have := HNL.out; omega
        have ho4 := HO3.out.alloc (.cells #[.string (strB t1), .string (strB t2)] 65)
        have x0 := cell_at (new_block w3 #[.string (strB t1), .string (strB t2)] 65) 0
        have x1 := cell_at (new_block w3 #[.string (strB t1), .string (strB t2)] 65) 1
        go_wp2_with (at_builtin; refine wpList_push_rec rfl _ _ rfl w.heap.size (.slice q k d) ls rfl ho4 w3.heap.size 1 (t1, t2) rfl x0 x1 hls hsz4 ?_)
        intro v4 w4 hown4 hgrow
        have hal3 : Below w3.heap.size w3 (w3.alloc (.cells #[.string (strB t1), .string (strB t2)] 65)) := (Below.refl _ _).alloc (Nat.le_refl _) _
        have HI4 := Lib.hid (show RcI w g F L N v4 m' w4 S2 (ls ++ [(t1, t2)]) from by
          have hne : some g ≠ (Value.slice q k d).ownBlock := fun e => by
            have := HO3.out.lt g e.symm
            omega
          have hc3 := HR.out.ch.trans HC3.out
          have hch4 : Chg g w w4 := ⟨hgrow.os.trans (hal3.os.trans hc3.os), hgrow.tape.trans (hal3.tape.trans hc3.tape), hgrow.output.trans (hal3.output.trans hc3.output), Nat.le_trans hc3.size (Nat.le_trans hal3.size hgrow.size), fun i hi hg => by
            have hi2 : some i ≠ (Value.slice q k d).ownBlock := fun e => by
              have := HO3.out.lt i e.symm
              omega
            rw [hgrow.block i (by have := hal3.size; omega) hi2, hal3.block i (by omega)]
            exact hc3.block i hi hg⟩
          refine ⟨hown4, (HR3.out.below hal3).grown hgrow hne, hch4, HQ.out.1, fun r hr => ?_, ?_, fun ⟨b2, hb2⟩ => ?_⟩
          · have hs2 : ∃ r2, S2 = .ok r2 := by
              cases hs : S2 with
              | ok r2 => exact ⟨r2, rfl⟩
              | error e2 =>
                have h5 := HQ.out.1
                rw [hs, iterR_err] at h5
                rw [← h5] at hr; cases hr
            obtain ⟨r2, hr2⟩ := hs2
            have h6 := HQ.out.2.1 r hr
            rw [HQ.out.2.2.2 r2 hr2] at h6
            rw [List.append_assoc]
            exact h6
          · have h7 := HLT.out
            rw [List.length_append, List.length_singleton]
            cases hs : S2 with
            | ok r2 => have := HQ.out.2.2.1 r2 hs; show _ + r2.length ≤ _; omega
            | error e2 => show _ + 0 ≤ _; omega
          · have h7 := HLT.out
            have := HQ.out.2.2.1 b2 hb2
            rw [List.length_append, List.length_singleton, hb2]
            show _ + b2.length ≤ _
            omega)
        clear hown4 hgrow hal3
        go_wp2_with fail
        go_roundw
        case rel => exact ⟨m', S2, _, by go_num, by omega, HI4⟩
        case measure => simp [intOf]
end Go.Proofs.Ytiohhnmhkllgdaa
