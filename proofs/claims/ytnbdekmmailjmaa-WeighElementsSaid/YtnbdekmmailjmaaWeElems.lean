/-
  WeighElements: the walk: the program's elements and the reference's are one list, and so are their errors.
-/
import Derived.Test.YtnbdekmmailjmaaWeRefE
import Derived.Test.YtnbdekmmailjmaaMgA
import Derived.Test.YtnbdekmmailjmaaWeAwake
namespace Go.Proofs.Ytnbdekmmailjmaa
open Go.RowKit Go.Gz Go.Sort

/-- the error of Elements, and its answer. -/
def errE (T : TB) (s : List Int) : Int := if mayWB T.ls T.rs T.top then (if s.any mayNotB then 2 else 0) else 4
def outE (T : TB) (s : List Int) : List EL := if mayWB T.ls T.rs T.top then (if s.any mayNotB then [] else elemL T.ls T.rs s) else []
def RetBoth (T : TB) (s : List Int) (W : World) (e : Ending) (w' : World) : Prop :=
  ∃ p c, e = .returned (.tuple #[.slice p (outE T s).length c, .int .i64 (errE T s)]) ∧ Below W.heap.size W w' ∧ Els w' p (outE T s)
theorem elements_both (T : TB) (s : List Int) (q : Option Addr) (c : Nat) (W : World) (hT : TableAt W T) (hs : Row W .i32 q s) (hz : s.length ≤ 60000) :
    Calls Try.prog 8 #[.agg #[.slice T.lp T.ls.length T.lc, .slice T.rp T.rs.length T.rc, .int .i64 T.top, .bool T.sh], .slice q s.length c] W (RetBoth T s W) := by
  unfold RetBoth errE outE
  cases hm : mayWB T.ls T.rs T.top with
  | false => exact (elements_table T hm _ W hT).mono fun e w' h => ⟨none, 0, h.1, h.2, Or.inl rfl⟩
  | true =>
    simp only [if_true]
    cases hv : s.any mayNotB with
    | true => exact (elements_text T hm s hv q c W hT hs hz).mono fun e w' h => ⟨none, 0, h.1, h.2, Or.inl rfl⟩
    | false =>
      refine (elements_ok T hm s hv q c W hT hs hz).mono fun e w' h => ?_
      obtain ⟨v, rfl, hb, hown⟩ := h
      obtain ⟨p, k, rfl, _, _, hels⟩ := OwnE.row hown
      exact ⟨p, k, rfl, hb, hels⟩
theorem refElements_both (T : TB) (s : List Int) (q : Option Addr) (c : Nat) (W : World) (hT : TabIn W T) (hl1 : T.ls.length ≤ 100) (hl2 : T.rs.length ≤ 100) (hs : Row W .i32 q s) (hz : s.length ≤ 1000) :
    Calls Try.prog 9 #[.agg #[.slice T.lp T.ls.length T.lc, .slice T.rp T.rs.length T.rc, .int .i64 T.top, .bool T.sh], .slice q s.length c] W (RetBoth T s W) := by
  refine (refElements_is T s q c W hT hl1 hl2 hs hz).mono fun e w' h => ?_
  obtain ⟨hb, ⟨hm, rfl⟩ | ⟨hm, hv, rfl⟩ | ⟨hm, hv, v, rfl, hown⟩⟩ := h
  · exact ⟨none, 0, by simp [outE, errE, hm], hb, Or.inl (by simp [outE, hm])⟩
  · exact ⟨none, 0, by simp only [outE, errE, hm, hv]; rfl, hb, Or.inl (by simp only [outE, hm, hv]; rfl)⟩
  · obtain ⟨p, k, rfl, _, _, hels⟩ := OwnE.row hown
    have e1 : outE T s = elemL T.ls T.rs s := by simp only [outE, hm, hv]; rfl
    have e2 : errE T s = 0 := by simp only [errE, hm, hv]; rfl
    exact ⟨p, k, by rw [e1, e2], hb, by rw [e1]; exact hels⟩
theorem TabIn.below {w w' : World} {T : TB} (h : TabIn w T) (hb : Below w.heap.size w w') : TabIn w' T := ⟨h.lore.below hb, h.rows.below hb, h.bl, h.bx, h.br, h.by_⟩
theorem outE_few {T : TB} {s : List Int} (h : s.length ≤ 200) : (outE T s).length ≤ 1000000 := by
  unfold outE
  split
  · rename_i hm
    split
    · simp
    · have := elem_few hm s
      rw [normal_length] at this
      have := apart_le (le3_of (may_wrong (mayW_lore hm))) s
      omega
  · simp

set_option maxHeartbeats 4000000 in
set_option maxRecDepth 100000 in
theorem elems_walk (T : TB) (s : List Int) (q : Option Addr) (c : Nat) (W : World) (hT : TabIn W T) (hs : Row W .i32 q s) (hz : s.length ≤ 9223372036854775807) :
    Calls Try.prog 3 #[.agg #[.slice T.lp T.ls.length T.lc, .slice T.rp T.rs.length T.rc, .int .i64 T.top, .bool T.sh], .slice q s.length c] W fun e w' => e = .returned (.bool true) ∧ Below W.heap.size W w' := by
  have HT := Lib.hid hT; clear hT
  have HS := Lib.hid hs; clear hs
  go_enter Try.func3, Try.ntmps3
  go_wp2_with fail
  obtain ⟨w0, hw0⟩ : ∃ w0, W.alloc (.cells #[.slice T.lp T.ls.length T.lc, .slice T.rp T.rs.length T.rc, .int .i64 T.top, .bool T.sh] 25) = w0 := ⟨_, rfl⟩
  rw [hw0]
  have hb0 := Lib.hid (show Below W.heap.size W w0 from hw0 ▸ (Below.refl _ _).alloc (Nat.le_refl _) _)
  have HX0 := Lib.hid (show BoxAt w0 W.heap.size T from hw0 ▸ BoxAt.new W T _)
  clear hw0
  refine (awake_true w0).mono ?_
  rintro e w1 ⟨rfl, hb1⟩
  have HX1 := Lib.hid (HX0.out.below hb1)
  have HB1 := Lib.hid (hb0.out.trans (hb1.mono hb0.out.size))
  clear hb1
  obtain ⟨_, t0, t1, t2, t3⟩ := HX1.out
  have hfew := Lib.hid (few_any T.lp T.ls T.lc T.rp T.rs T.rc T.top T.sh s q c w1 (HT.out.lore.below HB1.out) (HT.out.rows.below HB1.out) HT.out.bl HT.out.br HT.out.bx HT.out.by_ hz)
  go_wp2_with fail
  refine hfew.out.mono ?_
  rintro e w2 ⟨bf, rfl, hbf, hb2⟩
  have HX2 := Lib.hid (HX1.out.below hb2)
  have HB2 := Lib.hid (HB1.out.trans (hb2.mono HB1.out.size))
  clear hb2 hfew t0 t1 t2 t3
  cases bf with
  | false =>
    clear hbf
    go_wp2_with fail
    go_ret
    exact ⟨rfl, HB2.out⟩
  | true =>
    obtain ⟨hl1, hl2, hl3⟩ := hbf rfl
    clear hbf hz
    have HL := Lib.hid (show T.ls.length ≤ 100 ∧ T.rs.length ≤ 100 ∧ s.length ≤ 200 from ⟨hl1, hl2, hl3⟩)
    have hxl := outE_few (T := T) hl3
    clear hl1 hl2 hl3
    obtain ⟨_, t0, t1, t2, t3⟩ := HX2.out
    have C1 := Lib.hid (elements_both T s q c w2 (HT.out.at_ HB2.out HL.out.1 HL.out.2.1) (HS.out.below HB2.out) (by have := HL.out.2.2; omega))
    have C2 := Lib.hid (fun w (hb : Below W.heap.size W w) => refElements_both T s q c w (HT.out.below hb) HL.out.1 HL.out.2.1 (HS.out.below hb) (by have := HL.out.2.2; omega))
    have C3 := Lib.hid (fun w (hb : Below W.heap.size W w) => mayW_any T w (HT.out.at_ hb HL.out.1 HL.out.2.1))
    have C4 := Lib.hid (fun w (hb : Below W.heap.size W w) => refTableMay_is T.lp T.ls T.lc T.rp T.rs T.rc T.top T.sh w (HT.out.lore.below hb) (HT.out.rows.below hb) (by have := HL.out.1; omega) (by have := HL.out.2.1; omega) HT.out.bx HT.out.by_)
    unfold RetBoth at C1 C2
    obtain ⟨xs, hxs⟩ : ∃ xs, outE T s = xs := ⟨_, rfl⟩
    obtain ⟨er, her⟩ : ∃ er, errE T s = er := ⟨_, rfl⟩
    obtain ⟨mw, hmw⟩ : ∃ mw, mayWB T.ls T.rs T.top = mw := ⟨_, rfl⟩
    rw [hxs, her] at C1 C2
    rw [hxs] at hxl
    rw [hmw] at C3 C4
    clear hxs her hmw
    go_wp2_with fail
    refine C1.out.mono ?_
    rintro e w3 ⟨p3, c3, rfl, hb3, he3⟩
    have HX3 := Lib.hid (HX2.out.below hb3)
    have HB3 := Lib.hid (HB2.out.trans (hb3.mono HB2.out.size))
    have HE3 := Lib.hid he3
    clear hb3 he3 C1 t0 t1 t2 t3
    obtain ⟨_, t0, t1, t2, t3⟩ := HX3.out
    go_wp2_with fail
    refine (C2.out w3 HB3.out).mono ?_
    rintro e w4 ⟨p4, c4, rfl, hb4, he4⟩
    have HX4 := Lib.hid (HX3.out.below hb4)
    have HB4 := Lib.hid (HB3.out.trans (hb4.mono HB3.out.size))
    have HE4 := Lib.hid he4
    have HE3' := Lib.hid (HE3.out.below hb4)
    clear hb4 he4 C2 t0 t1 t2 t3 HE3
    have hx4 := HX4.out.lt
    obtain ⟨_, t0, t1, t2, t3⟩ := HX4.out
    have hs4 := HB4.out.size
    have heq : ((er : Int) == er) = true := by simp
    have f0 := fun pw : BelowOf w4 => pw.cell (a := ⟨W.heap.size, 0, none⟩) hx4 t0
    have f1 := fun pw : BelowOf w4 => pw.cell (a := ⟨W.heap.size, 1, none⟩) hx4 t1
    have f2 := fun pw : BelowOf w4 => pw.cell (a := ⟨W.heap.size, 2, none⟩) hx4 t2
    have f3 := fun pw : BelowOf w4 => pw.cell (a := ⟨W.heap.size, 3, none⟩) hx4 t3
    have K1 := Lib.hid (fun pw : BelowOf w4 => Calls.below_of pw (sameE_yes xs p3 p4 c3 c4 pw.w' hxl (HE3'.out.below pw.h) (HE4.out.below pw.h)))
    have K2 := Lib.hid (fun pw : BelowOf w4 => Calls.below_of pw (C3.out pw.w' (HB4.out.trans (pw.h.mono hs4))))
    have K3 := Lib.hid (fun pw : BelowOf w4 => Calls.below_of pw (C4.out pw.w' (HB4.out.trans (pw.h.mono hs4))))
    have mx := mixedL
    clear C3 C4 hxl
    cases mw
    all_goals
      go_wp2_with fail
      refine wp_region_quiet_below (by assumption) (by kernel_rfl) ?_
      repeat (go_big_quiet_step (first | (go_at_call 10; with_reducible exact K1.out _) | (go_at_call 11; with_reducible exact K2.out _) | (go_at_call 12; with_reducible exact K3.out _)))
      refine wpQuiet_nil ?_
      intro wq hw'
      obtain ⟨⟨wz, hbq⟩, hw''⟩ := hw'
      obtain rfl : wq = wz := hw''
      have HBq := Lib.hid (HB4.out.trans (hbq.mono hs4))
      clear hbq f0 f1 f2 f3 K1 K2 K3
      go_wp2_with fail
      go_ret
      exact ⟨rfl, HBq.out⟩
end Go.Proofs.Ytnbdekmmailjmaa
