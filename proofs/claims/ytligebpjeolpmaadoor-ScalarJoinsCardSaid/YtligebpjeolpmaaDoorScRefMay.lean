/-
  The reference's small functions: May, Write.
-/
import Derived.Test.YtligebpjeolpmaaDoorScWrite2
namespace Go.Proofs.YtligebpjeolpmaaDoor
open Go.RowKit Go.Gz

theorem refMay_any (r : Int) (w : World) : Calls Tryd.prog 17 #[.int .i32 r] w fun e w' => e = .returned (.bool (Lib.validRune r)) ∧ w = w' := by
  by_cases h1 : 0 ≤ r
  · by_cases h2 : r ≤ 1114111
    · by_cases h3 : r < 55296
      · have hv : Lib.validRune r = true := (validRune_iff r).2 (by unfold V; omega)
        rw [hv]; clear hv
        go_enter Tryd.func17, Tryd.ntmps17
        go_wp2
        go_ret
        exact ⟨rfl, rfl⟩
      · by_cases h4 : 57343 < r
        · have hv : Lib.validRune r = true := (validRune_iff r).2 (by unfold V; omega)
          rw [hv]; clear hv
          go_enter Tryd.func17, Tryd.ntmps17
          go_wp2
          go_ret
          exact ⟨rfl, rfl⟩
        · have hv : Lib.validRune r = false := by
            rw [← Bool.not_eq_true, validRune_iff]; unfold V; omega
          rw [hv]; clear hv
          go_enter Tryd.func17, Tryd.ntmps17
          go_wp2
          go_ret
          exact ⟨rfl, rfl⟩
    · have hv : Lib.validRune r = false := by
        rw [← Bool.not_eq_true, validRune_iff]; unfold V; omega
      rw [hv]; clear hv
      go_enter Tryd.func17, Tryd.ntmps17
      go_wp2
      go_ret
      exact ⟨rfl, rfl⟩
  · have hv : Lib.validRune r = false := by
      rw [← Bool.not_eq_true, validRune_iff]; unfold V; omega
    rw [hv]; clear hv
    go_enter Tryd.func17, Tryd.ntmps17
    go_wp2
    go_ret
    exact ⟨rfl, rfl⟩

/-- a row that the call owns: the slice v holds the numbers xs. -/
def Own (w : World) (B : Nat) (e : TypeId) (k : IntKind) (v : Value) (xs : List Int) : Prop := w.ownsRow B e 1 v xs.length (xs.map (Value.int k))

theorem Own.nil (w : World) (B : Nat) (e : TypeId) (k : IntKind) : Own w B e k (.slice none 0 0) [] := World.ownsRow_nil w B e 1
theorem Own.row {w : World} {B : Nat} {e : TypeId} {k : IntKind} {v : Value} {xs : List Int} (h : Own w B e k v xs) : ∃ p c, v = .slice p xs.length c ∧ xs.length ≤ c ∧ Row w k p xs := by
  obtain ⟨h1, ⟨rfl, h0⟩ | ⟨g, cap, cur, rfl, hg, hh, hc, hm, hs, ht⟩⟩ := h
  · have : xs = [] := List.eq_nil_of_length_eq_zero h0
    subst this
    exact ⟨none, 0, rfl, Nat.le_refl _, Or.inl rfl⟩
  · refine ⟨_, cap, rfl, hc, Or.inr ⟨g, 0, rfl, (Array.getElem?_eq_some_iff.1 hh).1, fun j hj => ?_⟩⟩
    have hj2 : j < cur.size := by omega
    have e1 : cur[j]? = some (.int k (xs.getD j 0)) := by
      have := congrArg (·[j]?) ht
      simp only [Nat.mul_one, List.getElem?_take, hj, if_true, Array.getElem?_toList, List.getElem?_map] at this
      rw [this]
      simp [List.getD, hj]
    simp only [World.cell?, hh, Nat.zero_add]
    exact e1
theorem Own.lt {w : World} {B : Nat} {e : TypeId} {k : IntKind} {v : Value} {xs : List Int} (h : Own w B e k v xs) : ∀ g, v.ownBlock = some g → B ≤ g := fun g hg => (World.ownsRow.lt h g hg).1

/-- append onto a row that the call owns: the law for the walk. -/
theorem wpList_own_push {P : Program} {w : World} {ops : Array Oper} {rest : List Oper} {o : Oper} {a : Act} {Q : Exit → Act → World → Prop}
    (hg : o.guard = none) (s x : Operand) (t : TypeId) (hop : o.op = Op.call { callee := Callee.builtin Builtin.append, args := #[s, x], argTypes := #[t, t] })
    (e : TypeId) (k : IntKind) (bytes : Nat) (h1 : P.underlying t = some (.slice e)) (hinfo : (P.info? e).map (fun i => (i.zero, i.size, i.bytes)) = some (some (.int k 0), 1, bytes)) (hby : bytes ≤ 8)
    (B : Nat) (v : Value) (xs : List Int) (hs : a.eval s = v) (hown : Own w B e k v xs)
    (G m c : Nat) (ys : List Int) (hx : a.eval x = .slice (some ⟨G, 0, none⟩) m c) (hn : ys.length = m) (hc : ∀ j, j < m → w.cell? ⟨G, j, none⟩ = some (.int k (ys.getD j 0)))
    (hlen : xs.length + m ≤ 1000000) (hB : B ≤ w.heap.size)
    (hK : ∀ v' w', Own w' B e k v' (xs ++ ys) → w.grownBy w' v.ownBlock → wpList P ops Q rest (a.put o.dst v') w') :
    wpList P ops Q (o :: rest) a w := by
  obtain ⟨i0, hi, hz0, hz1, hz2⟩ := info_parts hinfo
  subst hn
  refine wpList_append_own w hg s x t hop B e i0 (.int k 0) 1 bytes h1 hi hz0 hz1 hz2 rfl (by decide) v xs.length (xs.map (Value.int k)) hs hown ⟨G, 0, none⟩ ys.length c (ys.map (Value.int k)) hx (by simp) ?_ ?_ (by unfold maxLen; omega) ?_ hB ?_
  · intro j u hj
    obtain ⟨hj', rfl⟩ := List.getElem?_eq_some_iff.1 hj
    simp only [List.length_map] at hj'
    rw [Addr.add_lit, Nat.zero_add, hc j hj']
    simp [List.getD, hj']
  · intro u hu
    obtain ⟨y, _, rfl⟩ := List.mem_map.1 hu
    rfl
  · have : (xs.length + ys.length) * bytes ≤ (xs.length + ys.length) * 8 := Nat.mul_le_mul_left _ hby
    omega
  · intro v' w' ho hgr _
    refine hK v' w' ?_ hgr
    unfold Own
    rw [List.length_append, List.map_append]
    exact ho
theorem Own.alloc {w : World} {B : Nat} {e : TypeId} {k : IntKind} {v : Value} {xs : List Int} (h : Own w B e k v xs) (o : Obj) : Own (w.alloc o) B e k v xs := World.ownsRow.alloc h o
theorem Own.drewN {w : World} {B : Nat} {e : TypeId} {k : IntKind} {v : Value} {xs : List Int} (h : Own w B e k v xs) (n : Nat) : Own (w.drewN n) B e k v xs := h

/-- what Write of any runes answers. -/
def WRes (rs : List Int) (W : World) (e : Ending) (w' : World) : Prop :=
  ((∀ r ∈ rs, V r) → e = .returned (.tuple #[.string ⟨(encAll rs).toArray⟩, .int .i64 0])) ∧ ((¬ ∀ r ∈ rs, V r) → e = .returned (.tuple #[.string ⟨#[]⟩, .int .i64 2])) ∧ Below W.heap.size W w'

def RWRel (W : World) (rs : List Int) (v i : Value) (wr : World) : Prop := ∃ k : Nat, k ≤ rs.length ∧ i = .int .i64 k ∧ (∀ r ∈ rs.take k, V r) ∧ Own wr W.heap.size 5 .u8 v (nums (encAll (rs.take k))) ∧ Below W.heap.size W wr

theorem row_cell {W wr : World} {k : IntKind} {p : Option Addr} {xs : List Int} (h : Row W k p xs) (hb : Below W.heap.size W wr) {j : Nat} (hj : j < xs.length) : ∃ b o, p = some ⟨b, o, none⟩ ∧ b < W.heap.size ∧ wr.cell? ⟨b, o + j, none⟩ = some (.int k (xs.getD j 0)) := by
  rcases h with h | ⟨b, o, hp, h1, h2⟩
  · rw [h] at hj; simp at hj
  · exact ⟨b, o, hp, h1, by rw [hb.cell (p := ⟨b, o + j, none⟩) h1]; exact h2 j hj⟩

theorem low6 (x : Int) (h0 : 0 ≤ x) (h1 : x < 2 ^ 31) : bits .or .u8 128 (bits .and .i32 x 63 % 256) = 128 + x % 64 := by
  have e := bits_mask .i32 31 (by decide) wraps_i32 6 (by decide) x h0 h1
  have e63 : (2 : Int) ^ 6 - 1 = 63 := by decide
  have e64 : (2 : Int) ^ 6 = 64 := by decide
  rw [e63, e64] at e
  rw [e, show x % 64 % 256 = x % 64 by omega]
  exact bits_join .u8 8 (by decide) wraps_u8 6 128 (x % 64) (by omega) (by decide) (by decide) (by omega) (by rw [e64]; omega) (by omega)

set_option maxHeartbeats 1000000 in
set_option maxRecDepth 100000 in
theorem refWrite_any (rs : List Int) (p : Option Addr) (c : Nat) (W : World) (hp : Row W .i32 p rs) (hl : rs.length ≤ 100000) :
    Calls Tryd.prog 13 #[.slice p rs.length c] W (WRes rs W) := by
  have HP := Lib.hid hp; clear hp
  go_enter Tryd.func13, Tryd.ntmps13
  go_wp2_with fail
  go_loopw [4, 5] (fun v i wr => RWRel W rs v i wr) (fun _ i _ => rs.length - (intOf i).toNat)
  case atStart => exact ⟨0, Nat.zero_le _, rfl, fun r hr => by simp at hr, Own.nil _ _ _ _, Below.refl _ _⟩
  case round =>
    obtain ⟨k, hk, rfl, hv, hown, hb⟩ := hrel
    by_cases hlt : k < rs.length
    · obtain ⟨r, hdr, hmem⟩ := drop_cons hlt
      have hget : rs.getD k 0 = r := by
        have := congrArg (·[0]?) hdr
        simp only [List.getElem?_drop, Nat.add_zero, List.getElem?_cons_zero] at this
        simp [List.getD, this]
      obtain ⟨bp, op, rfl, hbp, hcell⟩ := row_cell HP.out hb hlt
      rw [hget] at hcell
      have hlen : (nums (encAll (rs.take k))).length ≤ 4 * k := by have := enc_le4 (rs.take k); rw [List.length_take] at this; rw [nums_length]; omega
      have CM := Lib.hid (refMay_any r wr)
      have hmore : nums (encAll (rs.take (k + 1))) = nums (encAll (rs.take k)) ++ nums (enc r) := by rw [take_more hdr, encAll_append, nums_append]; simp
      have HO := Lib.hid hown; clear hown
      by_cases hvr : V r
      · have hm : Lib.validRune r = true := (validRune_iff r).2 hvr
        rw [hm] at CM; clear hm
        have HV2 := Lib.hid (show ∀ x ∈ rs.take (k + 1), V x from fun x hx => by
          rw [take_more hdr] at hx
          rcases List.mem_append.1 hx with hx | hx
          · exact hv x hx
          · simp at hx; subst hx; exact hvr)
        clear hv hget
        have hdr' := Lib.hid hdr; clear hdr
        have hcases := V_cases hvr
        clear hvr
        rcases hcases with h | h | h | h
        · have hnum : nums (encAll (rs.take (k + 1))) = nums (encAll (rs.take k)) ++ [r] := by rw [hmore, nums_one h.1 h.2]
          obtain ⟨h0, h1⟩ := h
          have HN := Lib.hid hnum; clear hnum hmore
          go_wp2_with (first | (go_at_call 17; refine CM.out.mono ?_; rintro e w1 ⟨rfl, rfl⟩) | (at_builtin; refine wpList_own_push rfl _ _ 42 rfl 5 .u8 1 Tryd.underlying42 info_byte (by decide) W.heap.size _ _ rfl (HO.out.alloc _) wr.heap.size 1 1 [r] rfl rfl ?newCells (by omega) ?below ?_))
          case newCells =>
            intro j hj
            match j, hj with
            | 0, _ => simp
          case below => have := hb.size; simp; omega
          intro v' w2 hown2 hgrow
          have hb2 : Below W.heap.size W w2 := (hb.alloc hb.size _).grown hgrow (by have := hb.size; simp; omega) (fun g hg => HO.out.lt g hg)
          have HO2 := Lib.hid hown2; clear hown2 hgrow
          go_wp2
          go_roundw
          case rel => exact ⟨k + 1, by omega, by go_num, HV2.out, by rw [HN.out]; exact HO2.out, hb2⟩
          case measure => simp [intOf]; omega
        · have hnum : nums (encAll (rs.take (k + 1))) = nums (encAll (rs.take k)) ++ [192 + r / 64, 128 + r % 64] := by rw [hmore, nums_two h.1 h.2]
          obtain ⟨h0, h1⟩ := h
          have HN := Lib.hid hnum; clear hnum hmore
          go_wp2_with (first | (go_at_call 17; refine CM.out.mono ?_; rintro e w1 ⟨rfl, rfl⟩) | (at_builtin; refine wpList_own_push rfl _ _ 42 rfl 5 .u8 1 Tryd.underlying42 info_byte (by decide) W.heap.size _ _ rfl (HO.out.alloc _) wr.heap.size 2 2 [192 + r / 64, 128 + r % 64] rfl rfl ?newCells (by omega) ?below ?_))
          case newCells =>
            intro j hj
            match j, hj with
            | 0, _ => simp
            | 1, _ => first | (simp; done) | (simp; exact low6 _ (by omega) (by omega))
          case below => have := hb.size; simp; omega
          intro v' w2 hown2 hgrow
          have hb2 : Below W.heap.size W w2 := (hb.alloc hb.size _).grown hgrow (by have := hb.size; simp; omega) (fun g hg => HO.out.lt g hg)
          have HO2 := Lib.hid hown2; clear hown2 hgrow
          go_wp2
          go_roundw
          case rel => exact ⟨k + 1, by omega, by go_num, HV2.out, by rw [HN.out]; exact HO2.out, hb2⟩
          case measure => simp [intOf]; omega
        · have hnum : nums (encAll (rs.take (k + 1))) = nums (encAll (rs.take k)) ++ [224 + r / 4096, 128 + r / 64 % 64, 128 + r % 64] := by rw [hmore, nums_three h]
          have h0 : 2048 ≤ r ∧ r ≤ 65535 := by omega
          obtain ⟨h0, h1⟩ := h0
          clear h
          have HN := Lib.hid hnum; clear hnum hmore
          go_wp2_with (first | (go_at_call 17; refine CM.out.mono ?_; rintro e w1 ⟨rfl, rfl⟩) | (at_builtin; refine wpList_own_push rfl _ _ 42 rfl 5 .u8 1 Tryd.underlying42 info_byte (by decide) W.heap.size _ _ rfl (HO.out.alloc _) wr.heap.size 3 3 [224 + r / 4096, 128 + r / 64 % 64, 128 + r % 64] rfl rfl ?newCells (by omega) ?below ?_))
          case newCells =>
            intro j hj
            match j, hj with
            | 0, _ => simp
            | 1, _ => first | (simp; done) | (simp; exact low6 _ (by omega) (by omega))
            | 2, _ => first | (simp; done) | (simp; exact low6 _ (by omega) (by omega))
          case below => have := hb.size; simp; omega
          intro v' w2 hown2 hgrow
          have hb2 : Below W.heap.size W w2 := (hb.alloc hb.size _).grown hgrow (by have := hb.size; simp; omega) (fun g hg => HO.out.lt g hg)
          have HO2 := Lib.hid hown2; clear hown2 hgrow
          go_wp2
          go_roundw
          case rel => exact ⟨k + 1, by omega, by go_num, HV2.out, by rw [HN.out]; exact HO2.out, hb2⟩
          case measure => simp [intOf]; omega
        · have hnum : nums (encAll (rs.take (k + 1))) = nums (encAll (rs.take k)) ++ [240 + r / 262144, 128 + r / 4096 % 64, 128 + r / 64 % 64, 128 + r % 64] := by rw [hmore, nums_four h.1 h.2]
          obtain ⟨h0, h1⟩ := h
          have HN := Lib.hid hnum; clear hnum hmore
          go_wp2_with (first | (go_at_call 17; refine CM.out.mono ?_; rintro e w1 ⟨rfl, rfl⟩) | (at_builtin; refine wpList_own_push rfl _ _ 42 rfl 5 .u8 1 Tryd.underlying42 info_byte (by decide) W.heap.size _ _ rfl (HO.out.alloc _) wr.heap.size 4 4 [240 + r / 262144, 128 + r / 4096 % 64, 128 + r / 64 % 64, 128 + r % 64] rfl rfl ?newCells (by omega) ?below ?_))
          case newCells =>
            intro j hj
            match j, hj with
            | 0, _ => simp
            | 1, _ => first | (simp; done) | (simp; exact low6 _ (by omega) (by omega))
            | 2, _ => first | (simp; done) | (simp; exact low6 _ (by omega) (by omega))
            | 3, _ => first | (simp; done) | (simp; exact low6 _ (by omega) (by omega))
          case below => have := hb.size; simp; omega
          intro v' w2 hown2 hgrow
          have hb2 : Below W.heap.size W w2 := (hb.alloc hb.size _).grown hgrow (by have := hb.size; simp; omega) (fun g hg => HO.out.lt g hg)
          have HO2 := Lib.hid hown2; clear hown2 hgrow
          go_wp2
          go_roundw
          case rel => exact ⟨k + 1, by omega, by go_num, HV2.out, by rw [HN.out]; exact HO2.out, hb2⟩
          case measure => simp [intOf]; omega
      · have hm : Lib.validRune r = false := by rw [← Bool.not_eq_true, validRune_iff]; exact hvr
        rw [hm] at CM; clear hm
        have hbad : ¬ ∀ x ∈ rs, V x := fun h => hvr (h r hmem)
        have HB := Lib.hid hbad; clear hbad hvr hmore hv hget
        have hdr' := Lib.hid hdr; clear hdr
        go_wp2_with (go_at_call 17; refine CM.out.mono ?_; rintro e w1 ⟨rfl, rfl⟩)
        go_ret2
        exact ⟨fun h => absurd h HB.out, fun _ => rfl, hb⟩
    · obtain rfl : k = rs.length := by omega
      rw [List.take_length] at hv hown
      obtain ⟨q, d, rfl, hd, hrow⟩ := hown.row
      have hrun := run_string wr (encAll rs) q d hrow
      have HV2 := Lib.hid hv; clear hv hown hrow
      simp only [nums_length]
      go_wp2
      go_ret2
      exact ⟨fun _ => rfl, fun h => absurd HV2.out h, hb⟩
end Go.Proofs.YtligebpjeolpmaaDoor
