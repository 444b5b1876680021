/-
  Layer weigh: Elements.
-/
import Derived.Test.YticjgmhgpeihjaaGreatDoorWeAll
namespace Go.Proofs.YticjgmhgpeihjaaGreatDoor
open Go.RowKit Go.Gz Go.Sort

theorem cls_nonneg {ls : List LR} (h : mayB ls = true) (r : Int) : 0 ≤ clsL ls r := by
  unfold clsL
  rcases find_mem (ls := ls) (r := r) with ⟨hm, _⟩ | h0
  · have := List.any_eq_false.1 (may_wrong h) _ hm
    unfold wrongB at this
    simp only [Bool.or_eq_true, not_or, decide_eq_true_eq] at this
    have h2 := this.2.1
    split at h2 <;> omega
  · rw [h0]; exact Int.le_refl _
theorem mayW_lore {ls : List LR} {rs : List WR} {top : Int} (h : mayWB ls rs top = true) : mayB ls = true := by
  unfold mayWB at h
  rw [Bool.and_eq_true] at h
  exact h.1
theorem mayW_rise {ls : List LR} {rs : List WR} {top : Int} (h : mayWB ls rs top = true) : RisingW rs := by
  unfold mayWB at h
  simp only [Bool.and_eq_true] at h
  exact (riseWB_iff rs).1 h.2.2.2.1
theorem mayW_row {ls : List LR} {rs : List WR} {top : Int} (h : mayWB ls rs top = true) : ∀ x ∈ rs, mayRowB ls rs x = true := fun x hx => by
  unfold mayWB at h
  simp only [Bool.and_eq_true, Bool.not_eq_true'] at h
  have := List.any_eq_false.1 h.2.2.2.2 x hx
  simpa using this
theorem mayRow_of {ls : List LR} {rs : List WR} {x : WR} (h : mayRowB ls rs x = true) : 1 ≤ x.of.length ∧ x.of.length ≤ 3 ∧ x.to.length ≤ 4 ∧ wholeB ls x.of = true := by
  unfold mayRowB at h
  simp only [Bool.and_eq_true, decide_eq_true_eq] at h
  exact ⟨h.1.1, h.1.2.1, h.2.1.1, h.1.2.2⟩
theorem valid_range {r : Int} (h : mayNotB r = false) : 0 ≤ r ∧ r ≤ 1114111 := by
  unfold mayNotB Lib.validRune at h
  simp at h
  omega
theorem row_full {ls : List LR} {rs : List WR} {top : Int} (h : mayWB ls rs top = true) (k : List Int) (hk : 3 < k.length) : rowL rs k = none := by
  cases hr : rowL rs k with
  | none => rfl
  | some x =>
    obtain ⟨hx, rfl⟩ := row_some hr
    have := mayRow_of (mayW_row h x hx); omega
theorem ord_of {cls : Int → Int} {s : List Int} (h : InOrder cls s) : Ord (fun i => cls (s.getD i 0)) s.length := h

/-- what a text weighs, by a table. -/
def elemL (ls : List LR) (rs : List WR) (s : List Int) : List EL := weighL (clsL ls) (rowL rs) (normalL ls s)
/-- elements and an error's number that a call returned. -/
def RetEl (W : World) (xs : List EL) (e : Ending) (w' : World) : Prop := ∃ v, e = .returned (.tuple #[v, .int .i64 0]) ∧ Below W.heap.size W w' ∧ OwnE w' W.heap.size v xs

theorem elements_table (T : TB) (hm : mayWB T.ls T.rs T.top = false) (v : Value) (W : World) (hT : TableAt W T) :
    Calls Tryz.prog 15 #[.agg #[.slice T.lp T.ls.length T.lc, .slice T.rp T.rs.length T.rc, .int .i64 T.top, .bool T.sh], v] W fun e w' => e = .returned (.tuple #[.slice none 0 0, .int .i64 4]) ∧ Below W.heap.size W w' := by
  have hb0 := Lib.hid ((Below.refl W.heap.size W).alloc (Nat.le_refl _) (.cells #[.slice T.lp T.ls.length T.lc, .slice T.rp T.rs.length T.rc, .int .i64 T.top, .bool T.sh] 25))
  have h1 := Lib.hid (mayW_any T _ (hT.below hb0.out))
  rw [hm] at h1
  clear hm hT
  go_enter Tryz.func15, Tryz.ntmps15
  go_wp2_with fail
  refine h1.out.mono ?_
  rintro e w1 ⟨rfl, hb1⟩
  have HB := Lib.hid (hb0.out.trans (hb1.mono hb0.out.size)); clear hb1
  go_wp2_with fail
  go_ret2
  exact ⟨rfl, HB.out⟩

set_option maxHeartbeats 1000000 in
theorem elements_text (T : TB) (hm : mayWB T.ls T.rs T.top = true) (s : List Int) (hv : s.any mayNotB = true) (q : Option Addr) (c : Nat) (W : World) (hT : TableAt W T) (hs : Row W .i32 q s) (hz : s.length ≤ 60000) :
    Calls Tryz.prog 15 #[.agg #[.slice T.lp T.ls.length T.lc, .slice T.rp T.rs.length T.rc, .int .i64 T.top, .bool T.sh], .slice q s.length c] W fun e w' => e = .returned (.tuple #[.slice none 0 0, .int .i64 2]) ∧ Below W.heap.size W w' := by
  obtain ⟨wb, hwb⟩ : ∃ wb, wb = W.alloc (.cells #[.slice T.lp T.ls.length T.lc, .slice T.rp T.rs.length T.rc, .int .i64 T.top, .bool T.sh] 25) := ⟨_, rfl⟩
  have hb0 := Lib.hid (show Below W.heap.size W wb from hwb ▸ (Below.refl _ _).alloc (Nat.le_refl _) _)
  have hs0 : W.heap.size < wb.heap.size := by rw [hwb]; simp
  have C0 := Lib.hid (show wb.cell? ⟨W.heap.size, 0, none⟩ = some (.slice T.lp T.ls.length T.lc) by rw [hwb]; simp)
  have h1 := Lib.hid (mayW_any T wb (hT.below hb0.out))
  rw [hm] at h1
  have h2 := Lib.hid (fun w hb => normal_text T.ls (mayW_lore hm) T.lp T.lc s hv q c w (hT.lore.below hb) (hs.below hb) hT.few.1 (by omega))
  have HW := Lib.hid hwb
  clear hm hT hs hv hwb
  go_enter Tryz.func15, Tryz.ntmps15
  go_wp2_with fail
  rw [← HW.out]
  refine h1.out.mono ?_
  rintro e w1 ⟨rfl, hb1⟩
  have c0 := cell_below hb1 C0.out hs0
  have HB := Lib.hid (hb0.out.trans (hb1.mono hb0.out.size)); clear hb1
  go_wp2_with fail
  refine (h2.out w1 HB.out).mono ?_
  rintro e w2 ⟨rfl, hb2⟩
  have HB2 := Lib.hid (HB.out.trans (hb2.mono HB.out.size)); clear hb2
  go_wp2_with fail
  go_ret2
  exact ⟨rfl, HB2.out⟩

set_option maxHeartbeats 4000000 in
set_option maxRecDepth 100000 in
theorem elements_ok (T : TB) (hm : mayWB T.ls T.rs T.top = true) (s : List Int) (hv : s.any mayNotB = false) (q : Option Addr) (c : Nat) (W : World) (hT : TableAt W T) (hs : Row W .i32 q s) (hz : s.length ≤ 60000) :
    Calls Tryz.prog 15 #[.agg #[.slice T.lp T.ls.length T.lc, .slice T.rp T.rs.length T.rc, .int .i64 T.top, .bool T.sh], .slice q s.length c] W (RetEl W (elemL T.ls T.rs s)) := by
  obtain ⟨wb, hwb⟩ : ∃ wb, wb = W.alloc (.cells #[.slice T.lp T.ls.length T.lc, .slice T.rp T.rs.length T.rc, .int .i64 T.top, .bool T.sh] 25) := ⟨_, rfl⟩
  have hb0 := Lib.hid (show Below W.heap.size W wb from hwb ▸ (Below.refl _ _).alloc (Nat.le_refl _) _)
  have hs0 : W.heap.size < wb.heap.size := by rw [hwb]; simp
  have C0 := Lib.hid (show wb.cell? ⟨W.heap.size, 0, none⟩ = some (.slice T.lp T.ls.length T.lc) by rw [hwb]; simp)
  have C1 := Lib.hid (show wb.cell? ⟨W.heap.size, 1, none⟩ = some (.slice T.rp T.rs.length T.rc) by rw [hwb]; simp)
  have h1 := Lib.hid (mayW_any T wb (hT.below hb0.out))
  rw [hm] at h1
  have hml := mayW_lore hm
  have h2 := Lib.hid (fun w hb => normal_ok T.ls hml T.lp T.lc s hv q c w (hT.lore.below hb) (hs.below hb) hT.few.1 (by omega))
  have hnl : (normalL T.ls s).length ≤ 200000 := by rw [normal_length]; have := apart_le (le3_of (may_wrong hml)) s; omega
  have h3 := Lib.hid (fun w q' c' hb hs' => link_any T.ls (may_rising hml) T.lp T.lc (normalL T.ls s) q' c' w (hT.lore.below hb) hs' hT.few.1 (by omega))
  have hval := valid_normal hml hv
  have h4 := Lib.hid (fun w b la hb hbk hla htx => weighAll_any W T.rs (mayW_rise hm) T.rp T.rc (rowL T.rs) b (normalL T.ls s).length (fun j => (normalL T.ls s).getD j 0) (clsL T.ls) la w hT.rows hT.few.2.1
    ⟨rfl, fun x hx => ⟨hT.rows.mem hx, (hT.few.2.2 x hx).1⟩, fun x hx => (mayRow_of (mayW_row hm x hx)).2.2.1, hla, ord_of (order_inOrder _ _), fun i _ => cls_nonneg hml _, fun i hi => valid_range (by
      have := List.any_eq_false.1 hval ((normalL T.ls s)[i]) (List.getElem_mem hi)
      simpa [List.getD, hi] using this), row_full hm, hbk, hnl⟩ hb htx)
  rw [weigh_index] at h4
  have HW := Lib.hid hwb
  unfold elemL
  clear hm hT hs hv hwb hml hval
  generalize normalL T.ls s = ns at *
  generalize weighL (clsL T.ls) (rowL T.rs) ns = res at *
  go_enter Tryz.func15, Tryz.ntmps15
  go_wp2_with fail
  rw [← HW.out]
  refine h1.out.mono ?_
  rintro e w1 ⟨rfl, hb1⟩
  have c0 := cell_below hb1 C0.out hs0
  have c1 := cell_below hb1 C1.out hs0
  have hs1 := hb1.size
  have HB := Lib.hid (hb0.out.trans (hb1.mono hb0.out.size)); clear hb1
  go_wp2_with fail
  refine (h2.out w1 HB.out).mono ?_
  rintro e w2 ⟨v2, rfl, hb2, hown2⟩
  obtain ⟨q', c', rfl, _, hrow⟩ := Own.row hown2
  have HROW := Lib.hid hrow
  have c0' := cell_below hb2 c0 (by show W.heap.size < _; omega)
  have c1' := cell_below hb2 c1 (by show W.heap.size < _; omega)
  have hs2 := hb2.size
  have HB2 := Lib.hid (HB.out.trans (hb2.mono HB.out.size))
  clear hb2 c0 c1 hown2 hrow
  have h3' := Lib.hid (h3.out w2.drew q' c' HB2.out.drew HROW.out.drew)
  have mx := mixedL
  have hw2W : W.heap.size < w2.heap.size := by omega
  go_wp2_with fail
  go_region_with (first
    | (go_at_call 32; refine h3'.out.mono ?_; rintro e w3 ⟨b, la, rfl, hbk, hb3, htx, hla⟩; have c1'' := cell_below hb3 c1' hw2W; have HB3 := Lib.hid (HB2.out.drew.trans (hb3.mono HB2.out.size)); have H4 := Lib.hid (h4.out w3 b la HB3.out (Nat.le_trans HB2.out.size hbk) hla htx); clear hb3 htx hla hbk)
    | (go_at_call 31; refine H4.out.mono ?_; rintro e w4 ⟨v4, rfl, hb4, hown4⟩))
  all_goals go_wp2_with fail
  all_goals go_ret2
  all_goals exact ⟨v4, rfl, hb4, hown4⟩
end Go.Proofs.YticjgmhgpeihjaaGreatDoor
