/-
  Several texts in one: SpMeet, SpRef, SpRows, SpMath2.
-/
import Derived.Test.YtfadpiipigkocaaMg10
import Derived.Deep.RegionHeld3
namespace Go.Proofs.Ytfadpiipigkocaa
open Go.RowKit Go.Gz

theorem mixedSp : Try.prog.follows .mixedOrders = true := by kernel_rfl

theorem eql_span (a b c d : ByteArray) (w : World) : (binOp .eql 29 (.agg #[.string a, .string b]) (.agg #[.string c, .string d])).run Try.prog w = .ok (.bool (decide ((⟨a, b⟩ : SP) = ⟨c, d⟩))) w := by
  have hl : ∀ x y : ByteArray, x.toList = y.toList → x = y := fun x y h => data_inj (by rw [← Lib.toList_data, ← Lib.toList_data]; exact h)
  by_cases h1 : a = c
  · by_cases h2 : b = d
    · subst h1; subst h2; simp [go_sem]
    · have h2' : ¬ b.toList = d.toList := fun h => h2 (hl _ _ h)
      simp [go_sem, h1, h2, h2']
  · have h1' : ¬ a.toList = c.toList := fun h => h1 (hl _ _ h)
    simp [go_sem, h1, h1']
end Go.Proofs.Ytfadpiipigkocaa
namespace Go.Proofs.Ytfadpiipigkocaa
open Go.RowKit Go.Gz

theorem leS_eq (a b : ByteArray) : (slt a b || a.toList == b.toList) = !slt b a := by
  cases h : slt a b with
  | true =>
    cases k : slt b a with
    | true => have := slt_trans h k; rw [slt_irrefl] at this; cases this
    | false => rfl
  | false =>
    cases k : slt b a with
    | true =>
      have : a.toList ≠ b.toList := fun e => by
        have : a = b := data_inj (by rw [← Lib.toList_data, ← Lib.toList_data]; exact e)
        subst this
        rw [slt_irrefl] at k; cases k
      simp [this]
    | false => obtain rfl := slt_total h k; simp

/-- the cells of two boxed spans, and a world behind them. -/
def Two (W : World) (b : Nat) (f t f' t' : ByteArray) : Prop :=
  W.cell? ⟨b, 0, none⟩ = some (.string f) ∧ W.cell? ⟨b, 1, none⟩ = some (.string t) ∧ W.cell? ⟨b + 1, 0, none⟩ = some (.string f') ∧ W.cell? ⟨b + 1, 1, none⟩ = some (.string t')
theorem Two.below {W w : World} {b : Nat} {f t f' t' : ByteArray} (h : Two W b f t f' t') (hb : Below W.heap.size W w) (hs : b + 1 < W.heap.size) : Two w b f t f' t' :=
  ⟨by rw [hb.cell (p := ⟨b, 0, none⟩) (show b < W.heap.size by omega)]; exact h.1, by rw [hb.cell (p := ⟨b, 1, none⟩) (show b < W.heap.size by omega)]; exact h.2.1,
   by rw [hb.cell (p := ⟨b + 1, 0, none⟩) hs]; exact h.2.2.1, by rw [hb.cell (p := ⟨b + 1, 1, none⟩) hs]; exact h.2.2.2⟩
theorem Two.new (w : World) (f t f' t' : ByteArray) : Two ((w.alloc (.cells #[.string f, .string t] 29)).alloc (.cells #[.string f', .string t'] 29)) w.heap.size f t f' t' :=
  ⟨by simp [go_sem], by simp [go_sem], by simp [go_sem], by simp [go_sem]⟩

end Go.Proofs.Ytfadpiipigkocaa
namespace Go.Gz
/-- the first place of truth (-1: none). -/
def idxL (l : List Bool) : Int := match l.findIdx? id with | some i => (i : Int) | none => -1
theorem idx_hit (l : List Bool) (k : Nat) (h : k < l.length) (hk : l[k]! = true) (hj : ∀ j, j < k → l[j]! = false) : idxL l = k := by
  have : l.findIdx? id = some k := by
    rw [List.findIdx?_eq_some_iff_getElem]
    refine ⟨h, by rw [getElem!_pos l k h] at hk; simpa using hk, fun j hj' => ?_⟩
    have := hj j hj'
    rw [getElem!_pos l j (by omega)] at this
    simpa using this
  unfold idxL; rw [this]
theorem idx_miss (l : List Bool) (h : ∀ j, j < l.length → l[j]! = false) : idxL l = -1 := by
  have : l.findIdx? id = none := by
    rw [List.findIdx?_eq_none_iff]
    intro x hx
    obtain ⟨i, hi, rfl⟩ := List.getElem_of_mem hx
    have := h i hi
    rw [getElem!_pos l i hi] at this
    simpa using this
  unfold idxL; rw [this]
theorem idx_map {α : Type} [Inhabited α] (p : α → Bool) (l : List α) (j : Nat) (h : j < l.length) : (l.map p)[j]! = p l[j]! := by
  rw [getElem!_pos _ j (by simpa using h), getElem!_pos l j h, List.getElem_map]
theorem idx_any (l : List Bool) : decide (0 ≤ idxL l) = l.any id := by
  unfold idxL
  cases h : l.findIdx? id with
  | some i =>
    have : l.any id = true := by
      obtain ⟨h1, h2, _⟩ := List.findIdx?_eq_some_iff_getElem.1 h
      exact List.any_eq_true.2 ⟨_, List.getElem_mem h1, h2⟩
    rw [this]
    exact decide_eq_true (by show (0 : Int) ≤ (i : Int); omega)
  | none =>
    have : l.any id = false := by
      rw [List.findIdx?_eq_none_iff] at h
      exact List.any_eq_false.2 fun x hx => by rw [h x hx]; simp
    rw [this]
    rfl
/-- each span but the last ends where the next one begins. -/
def FollowP (l : List SP) : Prop := ∀ j, 0 < j → j < l.length → sem l[j - 1]!.t = false ∧ l[j - 1]!.t = l[j]!.f
open Classical in
noncomputable def followB (l : List SP) : Bool := decide (FollowP l)
noncomputable def wholeB (l : List SP) : Bool := if l.length = 0 then false else !l.any emptyB && (sem l[0]!.f && followB l && sem l[l.length - 1]!.t)
end Go.Gz
namespace Go.Proofs.Ytfadpiipigkocaa
open Go.RowKit Go.Gz

/-- slice pointer p reads in w as the spans ls. -/
def Spans (w : World) (p : Option Addr) (ls : List SP) : Prop :=
  ls = [] ∨ ∃ b off, p = some ⟨b, off, none⟩ ∧ b < w.heap.size ∧ ∀ j, j < ls.length → w.cell? ⟨b, off + j * 2, none⟩ = some (.string ls[j]!.f) ∧ w.cell? ⟨b, off + j * 2 + 1, none⟩ = some (.string ls[j]!.t)
theorem Spans.below {w w' : World} {p : Option Addr} {ls : List SP} (h : Spans w p ls) (hb : Below w.heap.size w w') : Spans w' p ls := by
  rcases h with h | ⟨b, off, hp, hlt, hc⟩
  · exact Or.inl h
  · exact Or.inr ⟨b, off, hp, Nat.lt_of_lt_of_le hlt hb.size, fun j hj => ⟨by rw [hb.cell (p := ⟨b, off + j * 2, none⟩) hlt]; exact (hc j hj).1, by rw [hb.cell (p := ⟨b, off + j * 2 + 1, none⟩) hlt]; exact (hc j hj).2⟩⟩
theorem span_cell {W wr : World} {p : Option Addr} {ls : List SP} (h : Spans W p ls) (hb : Below W.heap.size W wr) {j : Nat} (hj : j < ls.length) : ∃ b o, p = some ⟨b, o, none⟩ ∧ b < W.heap.size ∧ wr.cell? ⟨b, o + j * 2, none⟩ = some (.string ls[j]!.f) ∧ wr.cell? ⟨b, o + j * 2 + 1, none⟩ = some (.string ls[j]!.t) := by
  rcases h with h | ⟨b, o, hp, h1, h2⟩
  · rw [h] at hj; simp at hj
  · exact ⟨b, o, hp, h1, by rw [hb.cell (p := ⟨b, o + j * 2, none⟩) h1]; exact (h2 j hj).1, by rw [hb.cell (p := ⟨b, o + j * 2 + 1, none⟩) h1]; exact (h2 j hj).2⟩

set_option maxHeartbeats 1000000 in
theorem indexSpan_any (ls : List SP) (p : Option Addr) (c : Nat) (w : World) (hp : Spans w p ls) (hn : ls.length ≤ 9223372036854775807) :
    Calls Try.prog 81 #[.slice p ls.length c, .func (.func 79) #[] #[]] w fun e w' => e = .returned (.int .i64 (idxL (ls.map emptyB))) ∧ Below w.heap.size w w' := by
  have HP := Lib.hid hp; clear hp
  obtain ⟨n, hln⟩ : ∃ n, ls.length = n := ⟨_, rfl⟩
  have HN := Lib.hid hln
  rw [hln] at hn ⊢
  clear hln
  go_enter Try.func81, Try.ntmps81
  go_wp2_with fail
  go_loopg [5, 8] n (fun gg _ s8 wr => ∃ kk : Nat, kk ≤ n ∧ n - kk ≤ gg ∧ s8 = .int .i64 kk ∧ Hid (Below w.heap.size w wr) ∧ Hid (∀ j, j < kk → emptyB ls[j]! = false))
  case atStart => exact ⟨0, Nat.zero_le _, by omega, rfl, Lib.hid (Below.refl _ w), Lib.hid (fun j hj => absurd hj (Nat.not_lt_zero _))⟩
  case round =>
    obtain ⟨kk, hkk, hg, rfl, BW, A⟩ := hrel
    by_cases hlt : kk < n
    · have hltz : (kk : Int) < (n : Int) := by omega
      obtain ⟨b, o, rfl, hbl, c1, c2⟩ := span_cell HP.out BW.out (show kk < ls.length by rw [HN.out]; exact hlt)
      obtain ⟨x, hx⟩ : ∃ x, ls[kk]! = x := ⟨_, rfl⟩
      rw [hx] at c1 c2
      have HX := Lib.hid hx
      obtain ⟨f, t⟩ := x
      have CE := Lib.hid (empty_any f t wr)
      obtain ⟨q, hq⟩ : ∃ q, emptyB ⟨f, t⟩ = q := ⟨_, rfl⟩
      rw [hq] at CE
      have HQ := Lib.hid hq
      clear hx hq
      go_wp2_with fail
      refine CE.out.mono ?_
      rintro e w1 ⟨rfl, hb1⟩
      have HB1 := Lib.hid (BW.out.trans (hb1.mono BW.out.size))
      clear hb1 CE
      cases q with
      | true =>
        go_wp2_with fail
        go_ret
        refine ⟨?_, HB1.out⟩
        rw [idx_hit _ kk (by simpa using (by rw [HN.out]; exact hlt)) (by rw [idx_map _ _ _ (by rw [HN.out]; exact hlt), HX.out]; exact HQ.out) (fun j hj => by rw [idx_map _ _ _ (by rw [HN.out]; omega)]; exact A.out j hj)]
        rfl
      | false =>
        go_wp2_with fail
        go_roundg (n - (kk + 1))
        case measure => omega
        case rel =>
          refine ⟨kk + 1, by omega, by omega, by go_num, HB1, Lib.hid fun j hj => ?_⟩
          by_cases e : j = kk
          · subst e
            rw [HX.out]; exact HQ.out
          · exact A.out j (by omega)
    · have hltz : ¬ (kk : Int) < (n : Int) := by omega
      obtain rfl : kk = n := by omega
      go_wp2_with fail
      go_ret
      refine ⟨?_, BW.out⟩
      rw [idx_miss _ fun j hj => by rw [List.length_map, HN.out] at hj; rw [idx_map _ _ _ (by rw [HN.out]; exact hj)]; exact A.out j hj]
      rfl
theorem contains_any (ls : List SP) (p : Option Addr) (c : Nat) (w : World) (hp : Spans w p ls) (hn : ls.length ≤ 9223372036854775807) :
    Calls Try.prog 78 #[.slice p ls.length c, .func (.func 79) #[] #[]] w fun e w' => e = .returned (.bool (ls.any emptyB)) ∧ Below w.heap.size w w' := by
  have C := Lib.hid (indexSpan_any ls p c w hp hn)
  have hx : ls.any emptyB = decide (0 ≤ idxL (ls.map emptyB)) := by rw [idx_any, List.any_map]; rfl
  rw [hx]
  obtain ⟨i, hi⟩ : ∃ i, idxL (ls.map emptyB) = i := ⟨_, rfl⟩
  rw [hi] at C ⊢
  clear hi hx hp
  go_enter Try.func78, Try.ntmps78
  go_wp2_with fail
  refine C.out.mono ?_
  rintro e w1 ⟨rfl, hb1⟩
  go_wp2_with fail
  all_goals
    go_ret
    exact ⟨by simp_all, hb1⟩
end Go.Proofs.Ytfadpiipigkocaa
namespace Go.Gz

/-- the two tests by ranks. -/
theorem within_rank {L : List ByteArray} {a b : SP} (m1 : a.f ∈ L) (m2 : a.t ∈ L) (m3 : b.f ∈ L) (m4 : b.t ∈ L) (m6 : ByteArray.empty ∈ L) :
    withinB a b = true ↔ ((rank L a.t ≠ rank L ByteArray.empty ∧ rank L a.t ≤ rank L a.f) ∨ (rank L b.f ≤ rank L a.f ∧ (rank L b.t = rank L ByteArray.empty ∨ (rank L a.t ≠ rank L ByteArray.empty ∧ rank L a.t ≤ rank L b.t)))) := by
  unfold withinB emptyB
  simp only [sem_rank L m2 m6, sem_rank L m4 m6, slt_rank L m1 m2, slt_rank L m1 m3, slt_rank L m4 m2, Bool.or_eq_true, Bool.and_eq_true, Bool.not_eq_true', decide_eq_false_iff_not, decide_eq_true_eq]
  omega
theorem within_trans {a b c : SP} (h1 : withinB a b = true) (h2 : withinB b c = true) : withinB a c = true := by
  have m : ∀ x ∈ [a.f, a.t, b.f, b.t, c.f, c.t, ByteArray.empty], x ∈ [a.f, a.t, b.f, b.t, c.f, c.t, ByteArray.empty] := fun _ h => h
  simp only [List.forall_mem_cons] at m
  obtain ⟨m1, m2, m3, m4, m5, m6, m7, _⟩ := m
  generalize hL : [a.f, a.t, b.f, b.t, c.f, c.t, ByteArray.empty] = L at m1 m2 m3 m4 m5 m6 m7
  clear hL
  have e1 := empty_rank L m2 m7
  have e2 := empty_rank L m4 m7
  have e3 := empty_rank L m6 m7
  have e4 := empty_rank L m1 m7
  rw [within_rank m1 m2 m3 m4 m7] at h1
  rw [within_rank m3 m4 m5 m6 m7] at h2
  rw [within_rank m1 m2 m5 m6 m7]
  omega
theorem maxS2_mem (L : List ByteArray) {a b : ByteArray} (ha : a ∈ L) (hb : b ∈ L) : maxS2 a b ∈ L := by unfold maxS2; split <;> assumption
theorem firstEnd_mem (L : List ByteArray) {a b : ByteArray} (ha : a ∈ L) (hb : b ∈ L) : firstEndS a b ∈ L := by unfold firstEndS; split <;> assumption
theorem maxS2_rank (L : List ByteArray) {a b : ByteArray} (ha : a ∈ L) (hb : b ∈ L) : rank L (maxS2 a b) = max (rank L a) (rank L b) := by
  unfold maxS2
  rw [slt_rank L ha hb]
  by_cases h : rank L a < rank L b
  · rw [if_pos (decide_eq_true h)]; omega
  · rw [if_neg (by simpa using h)]; omega
theorem firstEnd_rank (L : List ByteArray) {a b : ByteArray} (ha : a ∈ L) (hb : b ∈ L) (he : ByteArray.empty ∈ L) :
    rank L (firstEndS a b) = if rank L a = rank L ByteArray.empty then rank L b else if rank L b = rank L ByteArray.empty then rank L a else min (rank L a) (rank L b) := by
  unfold firstEndS
  rw [sem_rank L ha he, sem_rank L hb he, slt_rank L hb ha]
  by_cases h1 : rank L a = rank L ByteArray.empty
  · simp [h1]
  · by_cases h2 : rank L b = rank L ByteArray.empty
    · simp [h1, h2]
    · by_cases h3 : rank L b < rank L a
      · simp [h1, h2, h3]; omega
      · simp [h1, h2, h3]; omega
theorem meet_within (a b : SP) : withinB (meetS a b) a = true ∧ withinB (meetS a b) b = true := by
  have m : ∀ x ∈ [a.f, a.t, b.f, b.t, ByteArray.empty], x ∈ [a.f, a.t, b.f, b.t, ByteArray.empty] := fun _ h => h
  simp only [List.forall_mem_cons] at m
  obtain ⟨m1, m2, m3, m4, m7, _⟩ := m
  generalize hL : [a.f, a.t, b.f, b.t, ByteArray.empty] = L at m1 m2 m3 m4 m7
  clear hL
  have e1 := empty_rank L m2 m7
  have e2 := empty_rank L m4 m7
  have k1 : (meetS a b).f ∈ L := maxS2_mem L m1 m3
  have k2 : (meetS a b).t ∈ L := firstEnd_mem L m2 m4
  have r1 : rank L (meetS a b).f = max (rank L a.f) (rank L b.f) := maxS2_rank L m1 m3
  have r2 : rank L (meetS a b).t = _ := firstEnd_rank L m2 m4 m7
  rw [within_rank k1 k2 m1 m2 m7, within_rank k1 k2 m3 m4 m7, r1, r2]
  by_cases h1 : rank L a.t = rank L ByteArray.empty
  · rw [if_pos h1]; omega
  · rw [if_neg h1]
    by_cases h2 : rank L b.t = rank L ByteArray.empty
    · rw [if_pos h2]; omega
    · rw [if_neg h2]; omega
theorem meet_all (a : SP) : meetS a ⟨ByteArray.empty, ByteArray.empty⟩ = a := by
  have h1 : maxS2 a.f ByteArray.empty = a.f := by unfold maxS2; rw [slt_empty]; rfl
  have he : sem ByteArray.empty = true := (sem_iff _).2 rfl
  have h2 : firstEndS a.t ByteArray.empty = a.t := by
    unfold firstEndS
    rw [he]
    cases h : sem a.t with
    | true => exact ((sem_iff _).1 h).symm
    | false => rfl
  unfold meetS
  simp only [h1, h2]
end Go.Gz
