/-
  Several texts in one: AtMay, SpWhole, AtRows.
-/
import Derived.Test.YtbhojddakmgdmaaMg12
import Derived.Test.YtbhojddakmgdmaaMg11
import Derived.Test.YtbhojddakmgdmaaMg09
import Derived.Test.YtbhojddakmgdmaaMg10
import Derived.BigQuiet
import Derived.Laws.EntriesVeiled
import Derived.WalkSpells
import Derived.LoopTactic
import Derived.Deep.LoopGhost
namespace Go.Gz

/-- a shard. -/
structure Sd where
  sp : SP
  n : Int
  e : Int
deriving Inhabited, DecidableEq
structure MayA (nodes ep : Int) (L : List Sd) : Prop where
  nd : 1 ≤ nodes ∧ nodes ≤ 5
  ln : 1 ≤ L.length ∧ L.length ≤ 12
  ep1 : 1 ≤ ep
  sh : ∀ x ∈ L, 1 ≤ x.n ∧ x.n ≤ nodes ∧ 1 ≤ x.e ∧ x.e ≤ ep
  wh : wholeB (L.map Sd.sp) = true
/-- the new list: d shards from i on are put as others. -/
def withL (L M : List Sd) (i d : Nat) : List Sd := L.take i ++ M ++ L.drop (i + d)
theorem withL_len (L M : List Sd) {i d : Nat} (h : i + d ≤ L.length) : (withL L M i d).length = L.length + M.length - d := by
  unfold withL
  simp only [List.length_append, List.length_take, List.length_drop]
  omega
theorem withL_get (L M : List Sd) {i : Nat} (d : Nat) (h : i ≤ L.length) (j : Nat) : (withL L M i d)[j]? = if j < i then L[j]? else if j < i + M.length then M[j - i]? else L[j + d - M.length]? := put_get? L M i d h j
theorem withL_mem {L M : List Sd} {i d : Nat} {x : Sd} (h : x ∈ withL L M i d) : x ∈ L ∨ x ∈ M := by
  unfold withL at h
  rcases List.mem_append.1 h with h | h
  · rcases List.mem_append.1 h with h | h
    · exact Or.inl (List.mem_of_mem_take h)
    · exact Or.inr h
  · exact Or.inl (List.mem_of_mem_drop h)
theorem withL_map (L M : List Sd) (i d : Nat) : (withL L M i d).map Sd.sp = (L.map Sd.sp).take i ++ M.map Sd.sp ++ (L.map Sd.sp).drop (i + d) := by
  unfold withL
  simp [List.map_take, List.map_drop]

section
variable {nodes ep : Int} {L : List Sd}
theorem MayA.cut (h : MayA nodes ep L) : ∃ ss, AscL ss ∧ L.map Sd.sp = partsL ss ∧ L.length = ss.length + 1 := by
  obtain ⟨ss, h1, h2⟩ := whole_parts h.wh
  exact ⟨ss, h1, h2, by rw [← List.length_map (f := Sd.sp), h2, partsL_len]⟩
theorem at_part {ss : List ByteArray} (h2 : L.map Sd.sp = partsL ss) {i : Nat} (hi : i < L.length) : (L.getD i default).sp = spAt ss i := by
  have h3 : (L.map Sd.sp)[i]? = (partsL ss)[i]? := by rw [h2]
  have h4 : i ≤ ss.length := by
    have : (L.map Sd.sp).length = ss.length + 1 := by rw [h2, partsL_len]
    rw [List.length_map] at this
    omega
  rw [List.getElem?_map, List.getElem?_eq_getElem hi, parts_get?, if_pos h4] at h3
  rw [List.getD, List.getElem?_eq_getElem hi]
  simpa using h3
theorem MayA.all {M : List Sd} {i d : Nat} (h : MayA nodes ep L) (hn : ∀ x ∈ M, 1 ≤ x.n ∧ x.n ≤ nodes ∧ x.e = ep + 1) : ∀ x ∈ withL L M i d, 1 ≤ x.n ∧ x.n ≤ nodes ∧ 1 ≤ x.e ∧ x.e ≤ ep + 1 := fun x hx => by
  have := h.ep1
  rcases withL_mem hx with hx | hx
  · have := h.sh x hx
    omega
  · have := hn x hx
    omega
theorem get_mem {i : Nat} (hi : i < L.length) : L.getD i default ∈ L := by
  rw [List.getD, List.getElem?_eq_getElem hi]
  exact List.getElem_mem hi
/-- a shard is split. -/
theorem MayA.split (h : MayA nodes ep L) {i : Nat} (hi : i < L.length) (hl : L.length < 12) {k : ByteArray} (hk : hasB (L.getD i default).sp k = true) (hne : k ≠ (L.getD i default).sp.f) :
    MayA nodes (ep + 1) (withL L [⟨⟨(L.getD i default).sp.f, k⟩, (L.getD i default).n, ep + 1⟩, ⟨⟨k, (L.getD i default).sp.t⟩, (L.getD i default).n, ep + 1⟩] i 1) := by
  obtain ⟨ss, h1, h2, h3⟩ := h.cut
  have hx := at_part h2 hi
  have hs := h.sh _ (get_mem hi)
  refine ⟨h.nd, ?_, by have := h.ep1; omega, h.all fun x hx => ?_, ?_⟩
  · rw [withL_len _ _ (by omega)]
    simp only [List.length_cons, List.length_nil]
    omega
  · simp only [List.mem_cons, List.not_mem_nil, or_false] at hx
    rcases hx with rfl | rfl <;> exact ⟨hs.1, hs.2.1, rfl⟩
  · rw [hx] at hk hne ⊢
    obtain ⟨h4, h5⟩ := parts_split h1 (by omega) hk hne
    rw [withL_map, h2]
    exact (congrArg wholeB h5).symm.trans h4.whole
/-- a shard and the next one are merged. -/
theorem MayA.merge (h : MayA nodes ep L) {i : Nat} (hi : i + 1 < L.length) :
    MayA nodes (ep + 1) (withL L [⟨⟨(L.getD i default).sp.f, (L.getD (i + 1) default).sp.t⟩, (L.getD i default).n, ep + 1⟩] i 2) := by
  obtain ⟨ss, h1, h2, h3⟩ := h.cut
  have hx := at_part h2 (show i < L.length by omega)
  have hy := at_part h2 hi
  have hs := h.sh _ (get_mem (show i < L.length by omega))
  refine ⟨h.nd, ?_, by have := h.ep1; omega, h.all fun x hx => ?_, ?_⟩
  · rw [withL_len _ _ (by omega)]
    have := h.ln
    simp only [List.length_cons, List.length_nil]
    omega
  · simp only [List.mem_cons, List.not_mem_nil, or_false] at hx
    subst hx
    exact ⟨hs.1, hs.2.1, rfl⟩
  · rw [hx, hy, withL_map, h2]
    have h5 := parts_merge (ss := ss) (i := i) (by omega)
    exact (congrArg wholeB h5).symm.trans (h1.less (by omega)).whole
/-- a shard is moved. -/
theorem MayA.move (h : MayA nodes ep L) {i : Nat} (hi : i < L.length) {m : Int} (hm : 1 ≤ m ∧ m ≤ nodes) : MayA nodes (ep + 1) (withL L [⟨(L.getD i default).sp, m, ep + 1⟩] i 1) := by
  refine ⟨h.nd, ?_, by have := h.ep1; omega, h.all fun x hx => ?_, ?_⟩
  · rw [withL_len _ _ (by omega)]
    have := h.ln
    simp only [List.length_cons, List.length_nil]
    omega
  · simp only [List.mem_cons, List.not_mem_nil, or_false] at hx
    subst hx
    exact ⟨hm.1, hm.2, rfl⟩
  · have e : (withL L [⟨(L.getD i default).sp, m, ep + 1⟩] i 1).map Sd.sp = L.map Sd.sp := by
      refine List.ext_getElem? fun j => ?_
      rw [List.getElem?_map, List.getElem?_map, withL_get _ _ _ (by omega)]
      simp only [List.length_cons, List.length_nil]
      rcases Nat.lt_trichotomy j i with hj | hj | hj
      · rw [if_pos hj]
      · subst hj
        rw [if_neg (by omega), if_pos (by omega), Nat.sub_self, List.getElem?_eq_getElem hi, List.getD, List.getElem?_eq_getElem hi]
        rfl
      · rw [if_neg (by omega), if_neg (by omega)]
        rfl
    rw [e]
    exact h.wh
/-- each key has one owner. -/
theorem MayA.one (h : MayA nodes ep L) (k : ByteArray) : L.countP (fun x => hasB x.sp k) = 1 := by
  obtain ⟨ss, h1, h2, -⟩ := h.cut
  have := one_has h1 k
  rw [← h2, List.countP_map] at this
  exact this
theorem MayA.owner (h : MayA nodes ep L) (k : ByteArray) : ∃ i, i < L.length ∧ hasB (L.getD i default).sp k = true ∧ ∀ j, j < i → hasB (L.getD j default).sp k = false := by
  have h1 := h.one k
  have hex : ∃ x ∈ L, hasB x.sp k = true := List.countP_pos_iff.1 (by omega)
  obtain ⟨x, hx, hk⟩ := hex
  obtain ⟨j, hj, rfl⟩ := List.getElem_of_mem hx
  have hP : ∃ i, i < L.length ∧ hasB (L.getD i default).sp k = true := ⟨j, hj, by rw [List.getD, List.getElem?_eq_getElem hj]; exact hk⟩
  classical
  have key : ∀ n, (∃ i, i < n ∧ i < L.length ∧ hasB (L.getD i default).sp k = true) → ∃ i, i < L.length ∧ hasB (L.getD i default).sp k = true ∧ ∀ j, j < i → hasB (L.getD j default).sp k = false := by
    intro n
    induction n with
    | zero => rintro ⟨i, h, _⟩; omega
    | succ n ih =>
      rintro ⟨i, hin, hil, hik⟩
      by_cases hc : ∃ i, i < n ∧ i < L.length ∧ hasB (L.getD i default).sp k = true
      · exact ih hc
      · obtain rfl : i = n := by
          refine Nat.le_antisymm (by omega) (Nat.le_of_not_lt fun hlt => hc ⟨i, hlt, hil, hik⟩)
        refine ⟨i, hil, hik, fun j hj => ?_⟩
        cases hb : hasB (L.getD j default).sp k with
        | false => rfl
        | true => exact absurd ⟨j, hj, by omega, hb⟩ hc
  obtain ⟨i, h2, h3⟩ := hP
  exact key (i + 1) ⟨i, by omega, h2, h3⟩
/-- .. alone. -/
theorem MayA.apart (h : MayA nodes ep L) {k : ByteArray} {i j : Nat} (hi : i < L.length) (hj : j < L.length) (h1 : hasB (L.getD i default).sp k = true) (h2 : hasB (L.getD j default).sp k = true) : i = j := by
  have hc := h.one k
  have key : ∀ (L : List Sd) (i j : Nat), i < j → j < L.length → hasB (L.getD i default).sp k = true → hasB (L.getD j default).sp k = true → 2 ≤ L.countP (fun x => hasB x.sp k) := by
    intro L
    induction L with
    | nil => intro i j _ hj; simp at hj
    | cons x t ih =>
      intro i j hij hj h1 h2
      obtain ⟨j, rfl⟩ : ∃ q, j = q + 1 := ⟨j - 1, by omega⟩
      rw [List.getD_cons_succ] at h2
      rw [List.countP_cons]
      have hj' : j < t.length := by simpa using hj
      cases i with
      | zero =>
        rw [List.getD_cons_zero] at h1
        rw [if_pos h1]
        have : 0 < t.countP (fun x => hasB x.sp k) := List.countP_pos_iff.2 ⟨_, get_mem hj', h2⟩
        omega
      | succ i =>
        rw [List.getD_cons_succ] at h1
        have := ih i j (by omega) hj' h1 h2
        omega
  rcases Nat.lt_trichotomy i j with hij | hij | hij
  · have := key L i j hij hj h1 h2; omega
  · exact hij
  · have := key L j i hij hi h2 h1; omega
end

/-- the first atlas. -/
theorem MayA.first {m : Int} (h1 : 1 ≤ m) {nodes : Int} (h2 : m ≤ nodes) (h3 : nodes ≤ 5) : MayA nodes 1 [⟨⟨sE, sE⟩, m, 1⟩] := by
  refine ⟨⟨by omega, h3⟩, by simp, by omega, fun x hx => ?_, ?_⟩
  · simp only [List.mem_cons, List.not_mem_nil, or_false] at hx
    subst hx
    exact ⟨h1, h2, Int.le_refl 1, Int.le_refl 1⟩
  · have := AscL.whole (ss := []) (fun i hi => by simp at hi)
    exact this
end Go.Gz
namespace Go.Proofs.Ytbhojddakmgdmaa
open Go.RowKit Go.Gz

open Classical in
theorem follow_stop {l : List SP} {i : Nat} (h0 : 0 < i) (h : i < l.length) (hx : ¬ (sem l[i - 1]!.t = false ∧ l[i - 1]!.t = l[i]!.f)) : followB l = false := by
  unfold followB; exact decide_eq_false fun hp => hx (hp i h0 h)
open Classical in
theorem follow_end {l : List SP} (h : ∀ j, 0 < j → j < l.length → sem l[j - 1]!.t = false ∧ l[j - 1]!.t = l[j]!.f) : followB l = true := by
  unfold followB; exact decide_eq_true h

set_option maxHeartbeats 1000000 in
theorem follow_any (ls : List SP) (p : Option Addr) (c : Nat) (w : World) (hp : Spans w p ls) (hn : ls.length ≤ 9223372036854775807) :
    Calls Try.prog 83 #[.slice p ls.length c] w fun e w' => e = .returned (.bool (followB ls)) ∧ w = w' := by
  have HP := Lib.hid hp; clear hp
  obtain ⟨n, hln⟩ : ∃ n, ls.length = n := ⟨_, rfl⟩
  have HN := Lib.hid hln
  rw [hln] at hn ⊢
  clear hln
  go_enter Try.func83, Try.ntmps83
  go_wp2_with fail
  go_loopg [3] n (fun gg s3 wr => ∃ i : Nat, 1 ≤ i ∧ n - i ≤ gg ∧ (i ≤ n ∨ i = 1) ∧ s3 = .int .i64 i ∧ w = wr ∧ Hid (∀ j, 0 < j → j < i → j < n → sem ls[j - 1]!.t = false ∧ ls[j - 1]!.t = ls[j]!.f))
  case atStart => exact ⟨1, Nat.le_refl _, by omega, Or.inr rfl, rfl, rfl, Lib.hid (fun j h1 h2 => by omega)⟩
  case round =>
    obtain ⟨i, hi1, hg, hin, rfl, rfl, A⟩ := hrel
    by_cases hlt : i < n
    · have hltz : (i : Int) < (n : Int) := by omega
      obtain ⟨k, rfl⟩ : ∃ k, i = k + 1 := ⟨i - 1, by omega⟩
      obtain ⟨b, o, hpe, hbl, c1, _⟩ := span_cell HP.out (Below.refl _ w) (show k + 1 < ls.length by rw [HN.out]; exact hlt)
      obtain ⟨b', o', hpe', _, _, c2⟩ := span_cell HP.out (Below.refl _ w) (show k < ls.length by rw [HN.out]; omega)
      rw [hpe] at hpe'
      simp only [Option.some.injEq, Addr.mk.injEq, and_true] at hpe'
      obtain ⟨rfl, rfl⟩ := hpe'
      subst hpe
      obtain ⟨t, ht⟩ : ∃ t, ls[k]!.t = t := ⟨_, rfl⟩
      obtain ⟨f, hf⟩ : ∃ f, ls[k + 1]!.f = f := ⟨_, rfl⟩
      rw [ht] at c2
      rw [hf] at c1
      have HT := Lib.hid ht
      have HF := Lib.hid hf
      clear ht hf
      have ek : ((k + 1 : Nat) : Int) - 1 = (k : Int) := by omega
      by_cases h1 : t.toList = []
      · have hno := Lib.hid (show followB ls = false from follow_stop (l := ls) (i := k + 1) (by omega) (by rw [HN.out]; exact hlt) (fun hc => by
          rw [show k + 1 - 1 = k from rfl, HT.out] at hc
          have := hc.1
          unfold sem at this
          rw [h1] at this
          cases this))
        go_wp2_with fail
        go_ret
        exact ⟨by rw [hno.out]; rfl, rfl⟩
      · cases h2 : (t.toList == f.toList) with
        | false =>
          have hno := Lib.hid (show followB ls = false from follow_stop (l := ls) (i := k + 1) (by omega) (by rw [HN.out]; exact hlt) (fun hc => by
            rw [show k + 1 - 1 = k from rfl, HT.out, HF.out] at hc
            have := hc.2
            subst this
            simp at h2))
          go_wp2_with fail
          go_ret
          exact ⟨by rw [hno.out]; rfl, rfl⟩
        | true =>
          have h1b : t.toList.isEmpty = false := by simpa using h1
          have hyes := Lib.hid (show sem t = false ∧ t = f from ⟨by unfold sem; simpa using h1, data_inj (by rw [← Lib.toList_data, ← Lib.toList_data]; exact eq_of_beq h2)⟩)
          go_wp2_with fail
          go_roundg (n - (k + 1 + 1))
          case measure => omega
          case rel =>
            refine ⟨k + 1 + 1, by omega, by omega, by omega, by go_num, rfl, Lib.hid fun j h0 hj hjn => ?_⟩
            by_cases e : j = k + 1
            · subst e
              rw [show k + 1 - 1 = k from rfl, HT.out, HF.out]
              exact hyes.out
            · exact A.out j h0 (by omega) hjn
    · have hltz : ¬ (i : Int) < (n : Int) := by omega
      have hyes := Lib.hid (show followB ls = true from follow_end fun j h0 hj => A.out j h0 (by rw [HN.out] at hj; omega) (by rw [HN.out] at hj; exact hj))
      go_wp2_with fail
      go_ret
      exact ⟨by rw [hyes.out]; rfl, rfl⟩

set_option maxHeartbeats 1000000 in
theorem whole_any (ls : List SP) (p : Option Addr) (c : Nat) (w : World) (hp : Spans w p ls) (hn : ls.length ≤ 9223372036854775807) :
    Calls Try.prog 73 #[.slice p ls.length c] w fun e w' => e = .returned (.bool (wholeB ls)) ∧ Below w.heap.size w w' := by
  by_cases h0 : ls.length = 0
  · have hw : wholeB ls = false := by unfold wholeB; rw [if_pos h0]
    rw [h0, hw]
    clear hp hn h0 hw
    go_enter Try.func73, Try.ntmps73
    go_wp2_with fail
    go_ret
    exact ⟨rfl, Below.refl _ _⟩
  · have CC := Lib.hid (contains_any ls p c w hp hn)
    have CF := Lib.hid (fun w' (hb : Below w.heap.size w w') => follow_any ls p c w' (hp.below hb) hn)
    have HW := Lib.hid (show wholeB ls = (!ls.any emptyB && (sem ls[0]!.f && followB ls && sem ls[ls.length - 1]!.t)) by unfold wholeB; rw [if_neg h0])
    have HP := Lib.hid hp; clear hp
    obtain ⟨n, hln⟩ : ∃ n, ls.length = n := ⟨_, rfl⟩
    have HN := Lib.hid hln
    rw [hln] at hn CC CF HW h0 ⊢
    clear hln
    obtain ⟨m, rfl⟩ : ∃ m, n = m + 1 := ⟨n - 1, by omega⟩
    have hne : (((m + 1 : Nat) : Int) == 0) = false := by simp; omega
    obtain ⟨a, ha⟩ : ∃ a, ls.any emptyB = a := ⟨_, rfl⟩
    obtain ⟨f, hf⟩ : ∃ f, ls[0]!.f = f := ⟨_, rfl⟩
    obtain ⟨g, hg⟩ : ∃ g, followB ls = g := ⟨_, rfl⟩
    obtain ⟨t, ht⟩ : ∃ t, ls[m]!.t = t := ⟨_, rfl⟩
    rw [ha] at CC HW
    rw [hg] at CF HW
    rw [hf, show m + 1 - 1 = m from rfl, ht] at HW
    have HF := Lib.hid hf
    have HT := Lib.hid ht
    rw [HW.out]
    clear ha hf hg ht HW h0
    go_enter Try.func73, Try.ntmps73
    go_wp2_with fail
    refine CC.out.mono ?_
    rintro e w1 ⟨rfl, hb1⟩
    have HB1 := Lib.hid hb1
    have CF1 := Lib.hid (CF.out w1 hb1)
    obtain ⟨b, o, hpe, hbl, c1, _⟩ := span_cell HP.out hb1 (show 0 < ls.length by rw [HN.out]; omega)
    obtain ⟨b', o', hpe', _, _, c2⟩ := span_cell HP.out hb1 (show m < ls.length by rw [HN.out]; omega)
    rw [hpe] at hpe'
    simp only [Option.some.injEq, Addr.mk.injEq, and_true] at hpe'
    obtain ⟨rfl, rfl⟩ := hpe'
    subst hpe
    rw [HF.out, Nat.zero_mul, Nat.add_zero] at c1
    rw [HT.out] at c2
    clear hb1 CC CF
    have em : ((m + 1 : Nat) : Int) - 1 = (m : Int) := by omega
    cases a with
    | true =>
      go_wp2_with fail
      go_ret
      exact ⟨rfl, HB1.out⟩
    | false =>
      by_cases h1 : f.toList = []
      · go_wp2_with fail
        refine CF1.out.mono ?_
        rintro e w' ⟨rfl, rfl⟩
        clear CF1
        cases g with
        | false =>
          go_wp2_with fail
          go_ret
          exact ⟨by simp [sem, h1], HB1.out⟩
        | true =>
          go_wp2_with fail
          all_goals
            go_ret
            exact ⟨by simp_all [sem], HB1.out⟩
      · go_wp2_with fail
        go_ret
        exact ⟨by simp [sem, h1], HB1.out⟩
end Go.Proofs.Ytbhojddakmgdmaa
namespace Go.Proofs.Ytbhojddakmgdmaa
open Go.RowKit Go.Gz

theorem mixedAt : Try.prog.follows .mixedOrders = true := by kernel_rfl
/-- a shard's cells. -/
def KS : SK Sd where
  cf x := [.string x.sp.f, .string x.sp.t, .int .i64 x.n, .int .i64 x.e]
  n := 4
  len _ := rfl
  one x u hu := by
    simp only [List.mem_cons, List.not_mem_nil, or_false] at hu
    rcases hu with rfl | rfl | rfl | rfl <;> rfl
  pos := by decide
def valSd (x : Sd) : Value := .agg #[.string x.sp.f, .string x.sp.t, .int .i64 x.n, .int .i64 x.e]
def zeroSd : Value := .agg #[.string ⟨#[]⟩, .string ⟨#[]⟩, .int .i64 0, .int .i64 0]
theorem skt_atlas : SKT Try.prog KS 68 40 zeroSd 48 := ⟨Try.underlying40, by kernel_rfl, by kernel_rfl, by decide⟩
theorem skt_ref : SKT Try.prog KS 79 32 zeroSd 48 := ⟨Try.underlying32, by kernel_rfl, by kernel_rfl, by decide⟩

/-- a span's cells. -/
def KP : SK SP where
  cf s := [.string s.f, .string s.t]
  n := 2
  len _ := rfl
  one s u hu := by
    simp only [List.mem_cons, List.not_mem_nil, or_false] at hu
    rcases hu with rfl | rfl <;> rfl
  pos := by decide
theorem skt_span : SKT Try.prog KP 30 78 (.agg #[.string ⟨#[]⟩, .string ⟨#[]⟩]) 32 := ⟨Try.underlying78, by kernel_rfl, by kernel_rfl, by decide⟩
theorem spans_of {w : World} {p : Option Addr} {ls : List SP} (h : RowK KP w p ls) : Spans w p ls := by
  rcases h with h | ⟨b, off, hp, hlt, hc⟩
  · exact Or.inl h
  · refine Or.inr ⟨b, off, hp, hlt, fun j hj => ?_⟩
    have e : ls[j]! = ls.getD j default := by rw [getElem!_pos ls j hj, List.getD, List.getElem?_eq_getElem hj]; rfl
    rw [e]
    exact ⟨hc j hj 0 (by decide), hc j hj 1 (by decide)⟩
theorem below_dn (w : World) (n : Nat) : Below w.heap.size w (w.drewN n) := ⟨rfl, rfl, rfl, Nat.le_refl _, fun _ _ => rfl⟩
/-- the cells of a boxed atlas. -/
def BoxA (W : World) (b : Nat) (ep : Int) (v : Value) : Prop := b < W.heap.size ∧ W.cell? ⟨b, 0, none⟩ = some (.int .i64 ep) ∧ W.cell? ⟨b, 1, none⟩ = some v
theorem BoxA.below {W w : World} {b : Nat} {ep : Int} {v : Value} (h : BoxA W b ep v) (hb : Below W.heap.size W w) : BoxA w b ep v :=
  ⟨Nat.lt_of_lt_of_le h.1 hb.size, by rw [hb.cell (p := ⟨b, 0, none⟩) h.1]; exact h.2.1, by rw [hb.cell (p := ⟨b, 1, none⟩) h.1]; exact h.2.2⟩
theorem BoxA.new (w : World) (ep : Int) (v : Value) (t : TypeId) : BoxA (w.alloc (.cells #[.int .i64 ep, v] t)) w.heap.size ep v := ⟨by simp, by simp, by simp⟩
theorem below_alloc (w : World) (x : Obj) : Below w.heap.size w (w.alloc x) := (Below.refl _ _).alloc (Nat.le_refl _) _

/-- what a call that answers an atlas of the same shards gives. -/
def RetA (w : World) (t : TypeId) (ep : Int) (L : List Sd) (e : Ending) (w' : World) : Prop := ∃ v, e = .returned (.agg #[.int .i64 ep, v]) ∧ OwnK KS w' w.heap.size t v L ∧ Below w.heap.size w w'
/-- .. as far as it has come. -/
structure MdI (w0 : World) (t : TypeId) (ep : Int) (o : Nat) (L : List Sd) (k : Nat) (wr : World) : Prop where
  kept : KeptF (fun j => j = o) w0 wr
  row : ∃ v, wr.heap[o]? = some (.cells #[.int .i64 ep, v] 42 (0, 0)) ∧ OwnK KS wr w0.heap.size t v (L.take k)
end Go.Proofs.Ytbhojddakmgdmaa
