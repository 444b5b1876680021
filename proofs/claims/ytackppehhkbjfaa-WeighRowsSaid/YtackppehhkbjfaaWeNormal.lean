/-
  WeighNormal: the walk.
-/
import Derived.Test.YtackppehhkbjfaaWeFew
namespace Go.Proofs.Ytackppehhkbjfaa
open Go.RowKit Go.Gz Go.Sort

theorem own_slice {w : World} {B : Nat} {v : Value} {xs : List Int} (h : Own w B 21 .i32 v xs) : ∃ q c, v = .slice q xs.length c ∧ (q = none → c = 0) ∧ Row w .i32 q xs := by
  have h' := h
  obtain ⟨_, ⟨rfl, h0⟩ | ⟨g, cap', cur, rfl, _⟩⟩ := h
  · have h00 : xs = [] := List.eq_nil_of_length_eq_zero h0
    exact ⟨none, 0, by rw [h00]; rfl, fun _ => rfl, Or.inl h00⟩
  · obtain ⟨p', c', hv, _, hr⟩ := Own.row h'
    injection hv with hp hn hcc
    exact ⟨some ⟨g, 0, none⟩, cap', by rw [hn], (fun h => by cases h), by rw [hp]; exact hr⟩
/-- a table's box. -/
structure BoxAt (w : World) (B : Nat) (T : TB) : Prop where
  lt : B < w.heap.size
  t0 : w.cell? ⟨B, 0, none⟩ = some (.slice T.lp T.ls.length T.lc)
  t1 : w.cell? ⟨B, 1, none⟩ = some (.slice T.rp T.rs.length T.rc)
  t2 : w.cell? ⟨B, 2, none⟩ = some (.int .i64 T.top)
  t3 : w.cell? ⟨B, 3, none⟩ = some (.bool T.sh)
theorem BoxAt.below {w w' : World} {B : Nat} {T : TB} (h : BoxAt w B T) (hb : Below w.heap.size w w') : BoxAt w' B T :=
  ⟨Nat.lt_of_lt_of_le h.lt hb.size, cellB hb h.t0 h.lt, cellB hb h.t1 h.lt, cellB hb h.t2 h.lt, cellB hb h.t3 h.lt⟩
theorem BoxAt.new (W : World) (T : TB) (t : TypeId) : BoxAt (W.alloc (.cells #[.slice T.lp T.ls.length T.lc, .slice T.rp T.rs.length T.rc, .int .i64 T.top, .bool T.sh] t)) W.heap.size T :=
  ⟨by simp, by simp, by simp, by simp, by simp⟩
theorem TabIn.at_ {W w : World} {T : TB} (h : TabIn W T) (hb : Below W.heap.size W w) (h1 : T.ls.length ≤ 100) (h2 : T.rs.length ≤ 100) : TableAt w T :=
  ⟨h.lore.below hb, h.rows.below hb, by omega, by omega, h.by_⟩

/-- rows of at most four elements: what a text of so many runes weighs has at most four times as many. -/
theorem lengthen_few {α : Type} {f : α → Int} {cls : Int → Int} {row : List Int → Option WR} (hr : ∀ k x, row k = some x → x.to.length ≤ 4) : ∀ (l : List α) (best : WR) (passed : Int), best.to.length ≤ 4 → (lengthenG f cls row best passed l).1.to.length ≤ 4
  | [], best, passed, h => by simpa [lengthenG] using h
  | r :: t, best, passed, h => by
    unfold lengthenG
    split
    · exact h
    · split
      · exact lengthen_few hr t best passed h
      · split
        · rename_i x hx
          exact lengthen_few hr t x passed (hr _ x hx)
        · exact lengthen_few hr t best _ h
theorem weighF_few {α : Type} {f : α → Int} {cls : Int → Int} {row : List Int → Option WR} (hr : ∀ k x, row k = some x → x.to.length ≤ 4) : ∀ (n : Nat) (l : List α), (weighF f cls row n l).length ≤ 4 * n
  | 0, _ => by simp [weighF]
  | _ + 1, [] => by simp [weighF]
  | n + 1, r :: t => by
    unfold weighF
    split
    · have := weighF_few (f := f) (cls := cls) hr n t
      simp [impl]; omega
    · rename_i k x hk
      have h1 := lengthen_few (f := f) (cls := cls) hr ((r :: t).drop k) x 0 (hr _ x (longTo_some f row hk).2.2.2)
      have h2 := weighF_few (f := f) (cls := cls) hr n (lengthenG f cls row x 0 ((r :: t).drop k)).2
      simp only [List.length_append]; omega
theorem elem_few {ls : List LR} {rs : List WR} {top : Int} (h : mayWB ls rs top = true) (s : List Int) : (elemL ls rs s).length ≤ 4 * (normalL ls s).length :=
  weighF_few (fun _ x hx => (mayRow_of (mayW_row h x (row_some hx).1)).2.2.1) _ _

set_option maxHeartbeats 4000000 in
set_option maxRecDepth 100000 in
theorem normal_walk (T : TB) (s : List Int) (q : Option Addr) (c : Nat) (W : World) (hT : TabIn W T) (hs : Row W .i32 q s) (hz : s.length ≤ 9223372036854775807) :
    Calls Try.prog 6 #[.agg #[.slice T.lp T.ls.length T.lc, .slice T.rp T.rs.length T.rc, .int .i64 T.top, .bool T.sh], .slice q s.length c] W fun e w' => e = .returned (.bool true) ∧ Below W.heap.size W w' := by
  have HT := Lib.hid hT; clear hT
  have HS := Lib.hid hs; clear hs
  go_enter Try.func6, Try.ntmps6
  go_wp2_with fail
  obtain ⟨w0, hw0⟩ : ∃ w0, W.alloc (.cells #[.slice T.lp T.ls.length T.lc, .slice T.rp T.rs.length T.rc, .int .i64 T.top, .bool T.sh] 25) = w0 := ⟨_, rfl⟩
  rw [hw0]
  have hb0 := Lib.hid (show Below W.heap.size W w0 from hw0 ▸ (Below.refl _ _).alloc (Nat.le_refl _) _)
  have HX0 := Lib.hid (show BoxAt w0 W.heap.size T from hw0 ▸ BoxAt.new W T _)
  clear hw0
  refine (awake_true w0).mono ?_
  rintro e w1 ⟨rfl, hb1⟩
  have HX1 := Lib.hid (HX0.out.below hb1)
  have HB1 := Lib.hid (hb0.out.trans (hb1.mono hb0.out.size))
  clear hb1
  obtain ⟨_, t0, t1, t2, t3⟩ := HX1.out
  have hfew := Lib.hid (few_any T.lp T.ls T.lc T.rp T.rs T.rc T.top T.sh s q c w1 (HT.out.lore.below HB1.out) (HT.out.rows.below HB1.out) HT.out.bl HT.out.br HT.out.bx HT.out.by_ hz)
  go_wp2_with fail
  refine hfew.out.mono ?_
  rintro e w2 ⟨bf, rfl, hbf, hb2⟩
  have HX2 := Lib.hid (HX1.out.below hb2)
  have HB2 := Lib.hid (HB1.out.trans (hb2.mono HB1.out.size))
  clear hb2 hfew t0 t1 t2 t3
  cases bf with
  | false =>
    clear hbf
    go_wp2_with fail
    go_ret
    exact ⟨rfl, HB2.out⟩
  | true =>
    obtain ⟨hl1, hl2, hl3⟩ := hbf rfl
    clear hbf
    obtain ⟨_, t0, t1, t2, t3⟩ := HX2.out
    have htm := Lib.hid (refTableMay_is T.lp T.ls T.lc T.rp T.rs T.rc T.top T.sh w2 (HT.out.lore.below HB2.out) (HT.out.rows.below HB2.out) (by omega) (by omega) HT.out.bx HT.out.by_)
    have HL := Lib.hid (show T.ls.length ≤ 100 ∧ T.rs.length ≤ 100 ∧ s.length ≤ 200 from ⟨hl1, hl2, hl3⟩)
    clear hl1 hl2 hl3 hz
    go_wp2_with fail
    refine htm.out.mono ?_
    rintro e w3 ⟨rfl, hb3⟩
    have HX3 := Lib.hid (HX2.out.below hb3)
    have HB3 := Lib.hid (HB2.out.trans (hb3.mono HB2.out.size))
    clear hb3 htm t0 t1 t2 t3
    cases hmw : mayWB T.ls T.rs T.top with
    | false =>
      clear hmw
      go_wp2_with fail
      go_ret
      exact ⟨rfl, HB3.out⟩
    | true =>
      have HMW := Lib.hid hmw
      have hml := mayW_lore hmw
      clear hmw
      have hT3 := HT.out.at_ HB3.out HL.out.1 HL.out.2.1
      have hno := Lib.hid (refNormal_may T.ls hml T.lp T.lc s q c w3 hT3.lore (HS.out.below HB3.out) hT3.few.1 HT.out.bx (by have := HL.out.2.2; omega))
      have HML := Lib.hid hml
      clear hT3 hml
      obtain ⟨_, t0, _, _, _⟩ := HX3.out
      go_wp2_with fail
      refine hno.out.mono ?_
      rintro e w4 ⟨hb4, ⟨_, rfl⟩ | ⟨hval, v4, rfl, hown4⟩⟩
      · have HB4 := Lib.hid (HB3.out.trans (hb4.mono HB3.out.size))
        clear hb4 hno t0
        go_wp2_with fail
        go_ret
        exact ⟨rfl, HB4.out⟩
      · obtain ⟨q4, c4, rfl, _, hrow4⟩ := own_slice hown4
        have HX4 := Lib.hid (HX3.out.below hb4)
        have HB4 := Lib.hid (HB3.out.trans (hb4.mono HB3.out.size))
        have HR4 := Lib.hid hrow4
        have HV := Lib.hid hval
        clear hb4 hno t0 hown4 hrow4 hval
        have hel := Lib.hid (elements_ok T HMW.out s HV.out q c w4 (HT.out.at_ HB4.out HL.out.1 HL.out.2.1) (HS.out.below HB4.out) (by have := HL.out.2.2; omega))
        have hnl : (normalL T.ls s).length ≤ 60000 := by rw [normal_length]; have := apart_le (le3_of (may_wrong HML.out)) s; have := HL.out.2.2; omega
        have hel2 := Lib.hid (fun w hb hr => elements_ok T HMW.out (normalL T.ls s) (valid_normal HML.out HV.out) q4 c4 w (HT.out.at_ hb HL.out.1 HL.out.2.1) hr hnl)
        have htw : elemL T.ls T.rs (normalL T.ls s) = elemL T.ls T.rs s := by unfold elemL; rw [normal_twice HML.out]
        rw [htw] at hel2
        have hxl : (elemL T.ls T.rs s).length ≤ 1000000 := by have := elem_few HMW.out s; omega
        clear htw hnl
        generalize elemL T.ls T.rs s = xs at hel hel2 hxl
        generalize normalL T.ls s = ns at HR4 hel2
        obtain ⟨_, t0, t1, t2, t3⟩ := HX4.out
        go_wp2_with fail
        refine hel.out.mono ?_
        rintro e w5 ⟨v5, rfl, hb5, hown5⟩
        obtain ⟨p5, c5, rfl, _, _, hels5⟩ := OwnE.row hown5
        have HX5 := Lib.hid (HX4.out.below hb5)
        have HB5 := Lib.hid (HB4.out.trans (hb5.mono HB4.out.size))
        have HE5 := Lib.hid hels5
        have hel3 := Lib.hid (hel2.out w5 HB5.out (HR4.out.below hb5))
        clear hb5 hown5 hels5 hel hel2 t0 t1 t2 t3
        obtain ⟨_, t0, t1, t2, t3⟩ := HX5.out
        go_wp2_with fail
        refine hel3.out.mono ?_
        rintro e w6 ⟨v6, rfl, hb6, hown6⟩
        obtain ⟨p6, c6, rfl, _, _, hels6⟩ := OwnE.row hown6
        have HB6 := Lib.hid (HB5.out.trans (hb6.mono HB5.out.size))
        have hsm := Lib.hid (sameE_yes xs p5 p6 c5 c6 w6 hxl (HE5.out.below hb6) hels6)
        clear hb6 hown6 hels6 hel3 t0 t1 t2 t3
        go_wp2_with fail
        refine hsm.out.mono ?_
        rintro e w7 ⟨rfl, hb7⟩
        have HB7 := Lib.hid (HB6.out.trans (hb7.mono HB6.out.size))
        clear hb7
        go_wp2_with fail
        go_ret
        exact ⟨rfl, HB7.out⟩
end Go.Proofs.Ytackppehhkbjfaa
