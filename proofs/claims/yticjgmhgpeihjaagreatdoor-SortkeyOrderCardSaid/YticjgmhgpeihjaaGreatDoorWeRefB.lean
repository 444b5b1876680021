/-
  The reference's Normal, Row, Find and what a table may be.
-/
import Derived.Test.YticjgmhgpeihjaaGreatDoorWeRefA
import Derived.Test.YticjgmhgpeihjaaGreatDoorWeRows
import Derived.Test.YticjgmhgpeihjaaGreatDoorWeElem
namespace Go.Proofs.YticjgmhgpeihjaaGreatDoor
open Go.RowKit Go.Gz Go.Sort

theorem refNormal_table (ls : List LR) (hm : mayB ls = false) (p : Option Addr) (cap : Nat) (v : Value) (W : World) (hl : Lores W p ls) (hsz : ls.length < 1000000) (hxs : ∀ x ∈ ls, x.to.length ≤ 9223372036854775807) :
    Calls Tryz.prog 11 #[.slice p ls.length cap, v] W fun e w' => e = .returned (.tuple #[.slice none 0 0, .int .i64 4]) ∧ Below W.heap.size W w' := by
  have h1 := Lib.hid (refLoreMay_is ls p cap W hl hsz hxs)
  rw [hm] at h1
  clear hm hl hxs
  go_enter Tryz.func11, Tryz.ntmps11
  go_wp2_with fail
  refine h1.out.mono ?_
  rintro e w1 ⟨rfl, hb1⟩
  have HB := Lib.hid hb1; clear hb1
  go_wp2_with fail
  go_ret2
  exact ⟨rfl, HB.out⟩

/-- the answer of Normal, where the table may be. -/
def RefNorm (ls : List LR) (s : List Int) (W : World) (e : Ending) (w' : World) : Prop :=
  Below W.heap.size W w' ∧ ((s.any mayNotB = true ∧ e = .returned (.tuple #[.slice none 0 0, .int .i64 2])) ∨ (s.any mayNotB = false ∧ ∃ v, e = .returned (.tuple #[v, .int .i64 0]) ∧ Own w' W.heap.size 21 .i32 v (normalL ls s)))

set_option maxHeartbeats 2000000 in
set_option maxRecDepth 100000 in
theorem refNormal_may (ls : List LR) (hm : mayB ls = true) (p : Option Addr) (cap : Nat) (s : List Int) (q : Option Addr) (c : Nat) (W : World) (hl : Lores W p ls) (hs : Row W .i32 q s) (hsz : ls.length < 1000000) (hxs : ∀ x ∈ ls, x.to.length ≤ 9223372036854775807) (hz : s.length ≤ 100000) :
    Calls Tryz.prog 11 #[.slice p ls.length cap, .slice q s.length c] W (RefNorm ls s W) := by
  have h1 := Lib.hid (refLoreMay_is ls p cap W hl hsz hxs)
  rw [hm] at h1
  have h3 := le3_of (may_wrong hm)
  have h2 := Lib.hid (fun w hb => refApart_any ls h3 p cap s q c w (hl.below hb) (hs.below hb) hsz hz)
  have hlen := apart_le h3 s
  have h4 := Lib.hid (fun w hb q' c' hs' hq' => refOrder_any ls (may_rising hm) p cap (apartL ls s) q' c' w (hl.below hb) hs' hq' hsz (by omega))
  have HS := Lib.hid hs
  clear hm hl hs hxs h3
  go_enter Tryz.func11, Tryz.ntmps11
  go_wp2_with fail
  refine h1.out.mono ?_
  rintro e w1 ⟨rfl, hb1⟩
  have HB1 := Lib.hid hb1; clear hb1
  go_wp2_with fail
  go_loopg [6] s.length (fun g vi wr => ∃ k : Nat, vi = .int .i64 (k : Int) ∧ k ≤ s.length ∧ s.length - k ≤ g ∧ wr = w1 ∧ Hid (∀ j, j < k → mayNotB (s.getD j 0) = false))
  case atStart => exact ⟨0, rfl, Nat.zero_le _, by omega, rfl, Lib.hid fun j hj => by omega⟩
  case round =>
    obtain ⟨k, rfl, hk, hg, hw, HN⟩ := hrel
    obtain rfl := hw
    by_cases hlt : k < s.length
    · have hltz : (k : Int) < (s.length : Int) := by omega
      obtain ⟨b, o, rfl, _, hcell⟩ := row_cell HS.out HB1.out hlt
      obtain ⟨r, hrr⟩ : ∃ r, s.getD k 0 = r := ⟨_, rfl⟩
      rw [hrr] at hcell
      have HR := Lib.hid hrr; clear hrr
      have hrm := refMay_any r wr
      cases hb : rmB r with
      | false =>
        rw [hb] at hrm
        have HM := Lib.hid hrm
        have e0 := Lib.hid (show s.any mayNotB = true from List.any_eq_true.2 ⟨r, by rw [← HR.out]; simp [List.getD, hlt], by rw [rm_not, hb]; rfl⟩)
        clear hrm hb
        go_wp2_with fail
        refine HM.out.mono ?_
        rintro e w' ⟨rfl, rfl⟩
        go_wp2_with fail
        go_ret2
        exact ⟨HB1.out, Or.inl ⟨e0.out, rfl⟩⟩
      | true =>
        rw [hb] at hrm
        have HM := Lib.hid hrm
        have HNr := Lib.hid (show mayNotB r = false by rw [rm_not, hb]; rfl)
        clear hrm hb
        go_wp2_with fail
        refine HM.out.mono ?_
        rintro e w' ⟨rfl, rfl⟩
        go_wp2_with fail
        go_roundg (s.length - (k + 1))
        case measure => omega
        case rel => exact ⟨k + 1, by go_num, by omega, by omega, rfl, Lib.hid fun j hj => by
          by_cases c0 : j = k
          · rw [c0, HR.out]; exact HNr.out
          · exact HN.out j (by omega)⟩
    · obtain rfl : k = s.length := by omega
      have hltz : ¬ (s.length : Int) < (s.length : Int) := by omega
      have e0 := Lib.hid (show s.any mayNotB = false from List.any_eq_false.2 fun z hz => by
        obtain ⟨t, ht, rfl⟩ := List.getElem_of_mem hz
        have := HN.out t ht
        simpa [List.getD, ht] using this)
      have h2' := Lib.hid (h2.out wr HB1.out)
      clear h1 h2
      go_wp2_with fail
      refine h2'.out.mono ?_
      rintro e w2 ⟨v, rfl, hb2, hown⟩
      have HB2 := Lib.hid (HB1.out.trans (hb2.mono HB1.out.size))
      have hpc : ∃ q' c', v = .slice q' (apartL ls s).length c' ∧ (q' = none → c' = 0) ∧ Row w2 .i32 q' (apartL ls s) := by
        have h' := hown
        obtain ⟨_, ⟨rfl, h0⟩ | ⟨g, cap', cur, rfl, _⟩⟩ := hown
        · have h00 : apartL ls s = [] := List.eq_nil_of_length_eq_zero h0
          exact ⟨none, 0, by rw [h00]; rfl, fun _ => rfl, Or.inl h00⟩
        · obtain ⟨p', c', hv, _, hr⟩ := Own.row h'
          injection hv with hp hn hcc
          exact ⟨some ⟨g, 0, none⟩, cap', by rw [hn], (fun h => by cases h), by rw [hp]; exact hr⟩
      obtain ⟨q', c', rfl, hq', hrow⟩ := hpc
      have h4' := Lib.hid (h4.out w2 HB2.out q' c' hrow hq')
      clear hb2 hown hrow hq' h4 h2'
      go_wp2_with fail
      refine h4'.out.mono ?_
      rintro e w3 ⟨v3, rfl, hb3, hown3⟩
      have HB3 := Lib.hid (HB2.out.trans (hb3.mono HB2.out.size))
      have HO3 := Lib.hid (own_lower hown3 HB2.out.size)
      clear hb3 hown3
      go_wp2_with fail
      go_ret2
      exact ⟨HB3.out, Or.inr ⟨e0.out, v3, rfl, HO3.out⟩⟩
end Go.Proofs.YticjgmhgpeihjaaGreatDoor
namespace Go.Gz
theorem row_first {rs : List WR} {k : List Int} {i : Nat} (hi : i < rs.length) (hk : rs[i]!.of = k) (hf : ∀ j, j < i → rs[j]!.of ≠ k) : rowL rs k = some rs[i]! := by
  unfold rowL
  rw [List.find?_eq_some_iff_getElem]
  refine ⟨by simpa using hk, i, hi, (getElem!_pos rs i hi).symm, fun j hj => ?_⟩
  have := hf j hj
  rw [getElem!_pos rs j (by omega)] at this
  simpa using this
/-- what the reference's compare answers. -/
def rcmp : List Int → List Int → Int
  | a :: s, b :: t => if a = b then rcmp s t else if a < b then -1 else 1
  | [], b => 0 - (b.length : Int)
  | a :: s, [] => ((a :: s).length : Int)
theorem rcmp_sign : ∀ (a b : List Int), (rcmp a b = 0 ↔ cmpL a b = 0) ∧ (rcmp a b < 0 ↔ cmpL a b < 0)
  | [], [] => by simp [rcmp, cmpL]
  | [], _ :: _ => by
    simp only [rcmp, cmpL, List.length_cons]
    omega
  | _ :: _, [] => by
    simp only [rcmp, cmpL, List.length_cons]
    omega
  | a :: s, b :: t => by
    have ih := rcmp_sign s t
    simp only [rcmp, cmpL]
    by_cases h : a = b
    · rw [if_pos h, if_neg (by omega), if_neg (by omega)]; exact ih
    · rw [if_neg h]
      by_cases h1 : a < b
      · rw [if_pos h1, if_pos h1]; omega
      · rw [if_neg h1, if_neg h1, if_pos (by omega)]; omega
theorem rcmp_step {a b : List Int} {k : Nat} (ha : k < a.length) (hb : k < b.length) : rcmp (a.drop k) (b.drop k) = if a.getD k 0 = b.getD k 0 then rcmp (a.drop (k + 1)) (b.drop (k + 1)) else if a.getD k 0 < b.getD k 0 then -1 else 1 := by
  rw [List.drop_eq_getElem_cons ha, List.drop_eq_getElem_cons hb, rcmp]
  simp [List.getD, ha, hb]
theorem rcmp_end {a b : List Int} (h : a = [] ∨ b = []) : rcmp a b = (a.length : Int) - (b.length : Int) := by
  rcases h with rfl | rfl
  · cases b <;> simp [rcmp]
  · cases a <;> simp [rcmp]
/-- the place of a row, or -1. -/
def rowIx (rs : List WR) (k : List Int) : Int := ((rs.findIdx? fun x => decide (x.of = k)).map Int.ofNat).getD (-1)
theorem rowIx_first {rs : List WR} {k : List Int} {i : Nat} (hi : i < rs.length) (hk : rs[i]!.of = k) (hf : ∀ j, j < i → rs[j]!.of ≠ k) : rowIx rs k = i := by
  unfold rowIx
  have : rs.findIdx? (fun x => decide (x.of = k)) = some i := by
    rw [List.findIdx?_eq_some_iff_getElem]
    refine ⟨hi, by rw [← getElem!_pos rs i hi]; simpa using hk, fun j hj => ?_⟩
    have := hf j hj
    rw [getElem!_pos rs j (by omega)] at this
    simpa using this
  rw [this]; rfl
theorem rowIx_no {rs : List WR} {k : List Int} (h : ∀ i, i < rs.length → rs[i]!.of ≠ k) : rowIx rs k = -1 := by
  unfold rowIx
  have : rs.findIdx? (fun x => decide (x.of = k)) = none := by
    rw [List.findIdx?_eq_none_iff]
    intro x hx
    obtain ⟨i, hi, rfl⟩ := List.getElem_of_mem hx
    have := h i hi
    rw [getElem!_pos rs i hi] at this
    simpa using this
  rw [this]; rfl
theorem rowIx_cases (rs : List WR) (k : List Int) : (∃ i : Nat, i < rs.length ∧ rowL rs k = some rs[i]! ∧ rowIx rs k = i) ∨ (rowL rs k = none ∧ rowIx rs k = -1) := by
  by_cases h : ∃ i, i < rs.length ∧ rs[i]!.of = k
  · left
    have hmin : ∀ n, (∃ i, i ≤ n ∧ i < rs.length ∧ rs[i]!.of = k) → ∃ i, i < rs.length ∧ rs[i]!.of = k ∧ ∀ j, j < i → rs[j]!.of ≠ k := by
      intro n
      induction n with
      | zero =>
        rintro ⟨i, hi, h1, h2⟩
        obtain rfl : i = 0 := by omega
        exact ⟨0, h1, h2, fun j hj => by omega⟩
      | succ n ih =>
        rintro ⟨i, hi, h1, h2⟩
        by_cases hex : ∃ i, i ≤ n ∧ i < rs.length ∧ rs[i]!.of = k
        · exact ih hex
        · exact ⟨i, h1, h2, fun j hj he => hex ⟨j, by omega, by omega, he⟩⟩
    obtain ⟨i0, h1, h2⟩ := h
    obtain ⟨i, hi, hk, hf⟩ := hmin i0 ⟨i0, Nat.le_refl _, h1, h2⟩
    exact ⟨i, hi, row_first hi hk hf, rowIx_first hi hk hf⟩
  · right
    have hn : ∀ i, i < rs.length → rs[i]!.of ≠ k := fun i hi he => h ⟨i, hi, he⟩
    exact ⟨row_no hn, rowIx_no hn⟩
end Go.Gz
namespace Go.Proofs.YticjgmhgpeihjaaGreatDoor
open Go.RowKit Go.Gz Go.Sort

set_option maxHeartbeats 2000000 in
theorem refCompare_any (a b : List Int) (p q : Option Addr) (c d : Nat) (W : World) (hp : Row W .i32 p a) (hq : Row W .i32 q b) (ha : a.length ≤ 9223372036854775807) (hb : b.length ≤ 9223372036854775807) :
    Calls Tryz.prog 36 #[.slice p a.length c, .slice q b.length d] W fun e w' => e = .returned (.int .i64 (rcmp a b)) ∧ Below W.heap.size W w' := by
  have HP := Lib.hid hp; clear hp
  have HQ := Lib.hid hq; clear hq
  obtain ⟨cv, hcv⟩ : ∃ cv, rcmp a b = cv := ⟨_, rfl⟩
  rw [hcv]
  have HV := Lib.hid hcv; clear hcv
  go_enter Tryz.func36, Tryz.ntmps36
  go_wp2_with fail
  go_loopg [5] a.length (fun g va wr => ∃ k : Nat, va = .int .i64 k ∧ k ≤ a.length ∧ k ≤ b.length ∧ a.length - k ≤ g ∧ Hid (Below W.heap.size W wr) ∧ Hid (rcmp (a.drop k) (b.drop k) = cv))
  case atStart => exact ⟨0, rfl, Nat.zero_le _, Nat.zero_le _, by omega, Lib.hid (Below.refl _ _), Lib.hid HV.out⟩
  case round =>
    obtain ⟨k, rfl, hk, hkb, hg, HB, HE⟩ := hrel
    by_cases hlt : k < a.length
    · have hltz : (k : Int) < (a.length : Int) := by omega
      by_cases hlb : k < b.length
      · have hlbz : (k : Int) < (b.length : Int) := by omega
        obtain ⟨b1, o1, rfl, _, c1⟩ := row_cell HP.out HB.out hlt
        obtain ⟨b2, o2, rfl, _, c2⟩ := row_cell HQ.out HB.out hlb
        have hs := rcmp_step hlt hlb
        obtain ⟨x, hx⟩ : ∃ x, a.getD k 0 = x := ⟨_, rfl⟩
        obtain ⟨y, hy⟩ : ∃ x, b.getD k 0 = x := ⟨_, rfl⟩
        rw [hx] at c1 hs
        rw [hy] at c2 hs
        clear hx hy
        have HS := Lib.hid hs; clear hs
        by_cases hxy : x = y
        · have heb : ((x : Int) != y) = false := by simp [hxy]
          have HX := Lib.hid hxy; clear hxy
          go_wp2_with fail
          go_quiet (fail)
          go_wp2_with fail
          go_roundg (a.length - (k + 1))
          case measure => omega
          case rel => exact ⟨k + 1, by go_num, by omega, by omega, by omega, Lib.hid (below_drewN HB.out _), Lib.hid (by rw [← HE.out, HS.out, if_pos HX.out])⟩
        · have heb : ((x : Int) != y) = true := by simp [hxy]
          by_cases hl : x < y
          · have hv := Lib.hid (show cv = -1 by rw [← HE.out, HS.out, if_neg hxy, if_pos hl])
            clear hxy
            go_wp2_with fail
            go_quiet (fail)
            go_wp2_with fail
            go_quiet (fail)
            go_wp2_with fail
            go_ret
            exact ⟨by rw [hv.out]; rfl, below_drewN (below_drewN HB.out _) _⟩
          · have hv := Lib.hid (show cv = 1 by rw [← HE.out, HS.out, if_neg hxy, if_neg hl])
            have hld : decide (x < y) = false := decide_eq_false hl
            clear hxy hl
            go_wp2_with fail
            go_quiet (fail)
            go_wp2_with fail
            go_quiet (fail)
            go_wp2_with fail
            go_ret
            exact ⟨by rw [hv.out]; rfl, below_drewN (below_drewN HB.out _) _⟩
      · have hlbz : decide ((k : Int) < (b.length : Int)) = false := decide_eq_false (by omega)
        have hkb' : k = b.length := by omega
        have hv := Lib.hid (show cv = (a.length : Int) - (b.length : Int) by
          rw [← HE.out, rcmp_end (Or.inr (by rw [hkb', List.drop_length])), List.length_drop, List.length_drop]; omega)
        clear hkb'
        go_wp2_with fail
        go_ret
        exact ⟨by rw [hv.out]; go_num, HB.out⟩
    · have hka : k = a.length := by omega
      have hltz : decide ((k : Int) < (a.length : Int)) = false := decide_eq_false (by omega)
      have hv := Lib.hid (show cv = (a.length : Int) - (b.length : Int) by
        rw [← HE.out, rcmp_end (Or.inl (by rw [hka, List.drop_length])), List.length_drop, List.length_drop]; omega)
      clear hka
      go_wp2_with fail
      go_ret
      exact ⟨by rw [hv.out]; go_num, HB.out⟩

set_option maxHeartbeats 2000000 in
set_option maxRecDepth 100000 in
theorem refRow_any (T : TB) (k : List Int) (q : Option Addr) (d : Nat) (W : World) (hT : TableAt W T) (hk : Row W .i32 q k) (hkz : k.length ≤ 9223372036854775807) :
    Calls Tryz.prog 38 #[.agg #[.slice T.lp T.ls.length T.lc, .slice T.rp T.rs.length T.rc, .int .i64 T.top, .bool T.sh], .slice q k.length d] W fun e w' => e = .returned (.int .i64 (rowIx T.rs k)) ∧ Below W.heap.size W w' := by
  obtain ⟨lp, ls, lc, rp, rs, rc, top, sh⟩ := T
  have HL := Lib.hid hT.rows
  have HF := Lib.hid hT.few.2.2
  have hsz := hT.few.2.1
  have HK := Lib.hid hk
  clear hT hk
  dsimp only at HL HF hsz ⊢
  obtain ⟨rx, hrx⟩ : ∃ rx, rowIx rs k = rx := ⟨_, rfl⟩
  rw [hrx]
  have HRX := Lib.hid hrx; clear hrx
  go_enter Tryz.func38, Tryz.ntmps38
  go_wp2_with fail
  obtain ⟨w0, hw0⟩ : ∃ w0, W.alloc (.cells #[.slice lp ls.length lc, .slice rp rs.length rc, .int .i64 top, .bool sh] 25) = w0 := ⟨_, rfl⟩
  rw [hw0]
  have hb0 := Lib.hid (show Below W.heap.size W w0 from hw0 ▸ (Below.refl _ _).alloc (Nat.le_refl _) _)
  have hs0 : W.heap.size < w0.heap.size := by rw [← hw0]; simp
  have T1 := Lib.hid (show w0.cell? ⟨W.heap.size, 1, none⟩ = some (.slice rp rs.length rc) by rw [← hw0]; simp)
  clear hw0
  go_loopg [5] rs.length (fun g vi wr => ∃ i : Nat, vi = .int .i64 i ∧ i ≤ rs.length ∧ rs.length - i ≤ g ∧ Hid (Below w0.heap.size w0 wr) ∧ Hid (∀ j, j < i → rs[j]!.of ≠ k))
  case atStart => exact ⟨0, rfl, Nat.zero_le _, by omega, Lib.hid (Below.refl _ _), Lib.hid fun j hj => by omega⟩
  case round =>
    obtain ⟨i, rfl, hi, hg, HB, HN⟩ := hrel
    have HW := Lib.hid (hb0.out.trans (HB.out.mono (Nat.le_of_lt hs0)))
    have t1 := cellB HB.out T1.out hs0
    by_cases hlt : i < rs.length
    · have hltz : (i : Int) < (rs.length : Int) := by omega
      obtain ⟨b, off, rfl, hbW, c1, _, hrow⟩ := HL.out.at_ HW.out hlt
      have hfz := (HF.out _ (getW_mem hlt)).1
      obtain ⟨x, hx⟩ : ∃ x, rs[i]! = x := ⟨_, rfl⟩
      rw [hx] at c1 hrow hfz
      have HX := Lib.hid hx; clear hx
      have hc := Lib.hid (refCompare_any x.of k x.op q x.oc d wr hrow.1.1 (HK.out.below HW.out) hfz hkz)
      clear hrow
      go_wp2_with fail
      refine hc.out.mono ?_
      rintro e w2 ⟨rfl, hb2⟩
      have HB2 := Lib.hid (HB.out.trans (hb2.mono HB.out.size))
      have h0 := (rcmp_sign x.of k).1
      obtain ⟨v, hv0⟩ : ∃ v, rcmp x.of k = v := ⟨_, rfl⟩
      rw [hv0] at h0 ⊢
      have H0 := Lib.hid h0
      clear hb2 h0 hc c1 t1 hv0
      by_cases hv : v = 0
      · have hvb : ((v : Int) == 0) = true := by simp [hv]
        have hres := Lib.hid (show rx = (i : Int) from HRX.out.symm.trans (rowIx_first hlt (by rw [HX.out]; exact cmpL_eq.1 (H0.out.1 hv)) HN.out))
        clear hv
        go_wp2_with fail
        go_ret
        exact ⟨by rw [hres.out]; rfl, hb0.out.trans (HB2.out.mono (Nat.le_of_lt hs0))⟩
      · have hvb : ((v : Int) == 0) = false := by simp [hv]
        have hne := Lib.hid (show rs[i]!.of ≠ k from fun h => hv (H0.out.2 (by rw [HX.out] at h; rw [h]; exact cmpL_self _)))
        clear hv
        go_wp2_with fail
        go_roundg (rs.length - (i + 1))
        case measure => omega
        case rel => exact ⟨i + 1, by go_num, by omega, by omega, HB2, Lib.hid fun j hj => by
          by_cases c0 : j = i
          · rw [c0]; exact hne.out
          · exact HN.out j (by omega)⟩
    · obtain rfl : i = rs.length := by omega
      have hltz : ¬ (rs.length : Int) < (rs.length : Int) := by omega
      have hres := Lib.hid (show rx = -1 from HRX.out.symm.trans (rowIx_no HN.out))
      go_wp2_with fail
      go_ret
      exact ⟨by rw [hres.out]; rfl, HW.out⟩
end Go.Proofs.YticjgmhgpeihjaaGreatDoor
namespace Go.Proofs.YticjgmhgpeihjaaGreatDoor
open Go.RowKit Go.Gz Go.Sort

/-- the place of a rune in a lore, or -1. -/
def findIx (ls : List LR) (r : Int) : Int := ((ls.findIdx? fun x => decide (x.r = r)).map Int.ofNat).getD (-1)
theorem findIx_first {ls : List LR} {r : Int} {i : Nat} (hi : i < ls.length) (hk : ls[i]!.r = r) (hf : ∀ j, j < i → ls[j]!.r ≠ r) : findIx ls r = i := by
  unfold findIx
  have : ls.findIdx? (fun x => decide (x.r = r)) = some i := by
    rw [List.findIdx?_eq_some_iff_getElem]
    refine ⟨hi, by rw [← getElem!_pos ls i hi]; simpa using hk, fun j hj => ?_⟩
    have := hf j hj
    rw [getElem!_pos ls j (by omega)] at this
    simpa using this
  rw [this]; rfl
theorem findIx_no {ls : List LR} {r : Int} (h : ∀ i, i < ls.length → ls[i]!.r ≠ r) : findIx ls r = -1 := by
  unfold findIx
  have : ls.findIdx? (fun x => decide (x.r = r)) = none := by
    rw [List.findIdx?_eq_none_iff]
    intro x hx
    obtain ⟨i, hi, rfl⟩ := List.getElem_of_mem hx
    have := h i hi
    rw [getElem!_pos ls i hi] at this
    simpa using this
  rw [this]; rfl
theorem findIx_cases (ls : List LR) (r : Int) : (∃ i : Nat, i < ls.length ∧ findL ls r = ls[i]! ∧ findIx ls r = i) ∨ ((∀ j, j < ls.length → ls[j]!.r ≠ r) ∧ findIx ls r = -1) := by
  by_cases h : ∃ i, i < ls.length ∧ ls[i]!.r = r
  · left
    have hmin : ∀ n, (∃ i, i ≤ n ∧ i < ls.length ∧ ls[i]!.r = r) → ∃ i, i < ls.length ∧ ls[i]!.r = r ∧ ∀ j, j < i → ls[j]!.r ≠ r := by
      intro n
      induction n with
      | zero =>
        rintro ⟨i, hi, h1, h2⟩
        obtain rfl : i = 0 := by omega
        exact ⟨0, h1, h2, fun j hj => by omega⟩
      | succ n ih =>
        rintro ⟨i, hi, h1, h2⟩
        by_cases hex : ∃ i, i ≤ n ∧ i < ls.length ∧ ls[i]!.r = r
        · exact ih hex
        · exact ⟨i, h1, h2, fun j hj he => hex ⟨j, by omega, by omega, he⟩⟩
    obtain ⟨i0, h1, h2⟩ := h
    obtain ⟨i, hi, hk, hf⟩ := hmin i0 ⟨i0, Nat.le_refl _, h1, h2⟩
    exact ⟨i, hi, find_first hi hk hf, findIx_first hi hk hf⟩
  · right
    have hn : ∀ i, i < ls.length → ls[i]!.r ≠ r := fun i hi he => h ⟨i, hi, he⟩
    exact ⟨hn, findIx_no hn⟩

set_option maxHeartbeats 1000000 in
theorem refFind_ix (ls : List LR) (p : Option Addr) (cap : Nat) (r : Int) (W : World) (hl : Lores W p ls) (hsz : ls.length < 1000000) :
    Calls Tryz.prog 37 #[.slice p ls.length cap, .int .i32 r] W fun e w' => e = .returned (.int .i64 (findIx ls r)) ∧ Below W.heap.size W w' := by
  have HL := Lib.hid hl; clear hl
  obtain ⟨rx, hrx⟩ : ∃ rx, findIx ls r = rx := ⟨_, rfl⟩
  rw [hrx]
  have HRX := Lib.hid hrx; clear hrx
  go_enter Tryz.func37, Tryz.ntmps37
  go_wp2_with fail
  go_loop [5] (fun i => ∃ k : Nat, i = .int .i64 k ∧ k ≤ ls.length ∧ Hid (∀ j, j < k → ls[j]!.r ≠ r)) (fun i => ls.length - (intOf i).toNat)
  case atStart => exact ⟨0, rfl, Nat.zero_le _, Lib.hid fun j hj => by omega⟩
  case round =>
    obtain ⟨k, rfl, hk, HN⟩ := hrel
    by_cases hlt : k < ls.length
    · have hltz : (k : Int) < (ls.length : Int) := by omega
      obtain ⟨b, off, rfl, hbW, c1, _, _, _⟩ := HL.out.at_ (Below.refl _ _) hlt
      obtain ⟨x, hx⟩ : ∃ x, ls[k]!.r = x := ⟨_, rfl⟩
      rw [hx] at c1
      have HX := Lib.hid hx; clear hx
      by_cases he : x = r
      · have heb : ((x : Int) == r) = true := by simp [he]
        have HE := Lib.hid he; clear he
        have hres := Lib.hid (show rx = (k : Int) from HRX.out.symm.trans (findIx_first hlt (by rw [HX.out, HE.out]) HN.out))
        go_wp2_with fail
        go_ret
        exact ⟨by rw [hres.out]; rfl, Below.refl _ _⟩
      · have heb : ((x : Int) == r) = false := by simp [he]
        have HE := Lib.hid he; clear he
        go_wp2_with fail
        go_round
        case rel => exact ⟨k + 1, by go_num, by omega, Lib.hid fun j hj => by
          by_cases c : j = k
          · rw [c, HX.out]; exact HE.out
          · exact HN.out j (by omega)⟩
        case measure => simp [intOf]; omega
    · obtain rfl : k = ls.length := by omega
      have hres := Lib.hid (show rx = -1 from HRX.out.symm.trans (findIx_no HN.out))
      go_wp2_with fail
      go_ret
      exact ⟨by rw [hres.out]; rfl, Below.refl _ _⟩

theorem whole_iff {ls : List LR} (hm : mayB ls = true) (s : List Int) : wholeB ls s = true ↔ ∀ z ∈ s, mayNotB z = false ∧ hasTo ls z = false := by
  unfold wholeB
  rw [Bool.and_eq_true, decide_eq_true_eq, Bool.not_eq_true', List.any_eq_false]
  constructor
  · rintro ⟨h1, h2⟩ z hz
    refine ⟨by simpa using h1 z hz, ?_⟩
    have := noTo_apart hm s z (by rw [h2]; exact hz)
    exact this
  · intro h
    exact ⟨fun z hz => by rw [(h z hz).1]; simp, apart_same fun z hz => (h z hz).2⟩
theorem mayRow_iff {ls : List LR} (hm : mayB ls = true) (rs : List WR) (x : WR) : mayRowB ls rs x = true ↔ 1 ≤ x.of.length ∧ x.of.length ≤ 3 ∧ x.to.length ≤ 4 ∧ (∀ z ∈ x.of, mayNotB z = false ∧ hasTo ls z = false) ∧ (∀ y ∈ x.to, elNotB y = false) ∧ isL rs (x.of.take 1) = true := by
  unfold mayRowB
  simp only [Bool.and_eq_true, decide_eq_true_eq, Bool.not_eq_true', List.any_eq_false]
  rw [whole_iff hm]
  constructor
  · rintro ⟨⟨h1, h2, h3⟩, ⟨h4, h5⟩, h6⟩
    exact ⟨h1, h2, h4, h3, fun y hy => by simpa using h5 y hy, h6⟩
  · rintro ⟨h1, h2, h3, h4, h5, h6⟩
    exact ⟨⟨h1, h2, h4⟩, ⟨h3, fun y hy => by rw [h5 y hy]; simp⟩, h6⟩
theorem bad_wrow {ls : List LR} {rs : List WR} {top : Int} {i : Nat} (hi : i < rs.length) (h : ¬ mayRowB ls rs rs[i]! = true) : mayWB ls rs top = false := by
  have : (rs.any fun x => !mayRowB ls rs x) = true := List.any_eq_true.2 ⟨_, getW_mem hi, by simpa using h⟩
  unfold mayWB
  rw [this]; simp
theorem bad_wrise {ls : List LR} {rs : List WR} {top : Int} {j : Nat} (hj : j + 1 < rs.length) (h : ¬ cmpL rs[j]!.of rs[j + 1]!.of < 0) : mayWB ls rs top = false := by
  have : riseWB rs = false := by
    rw [← Bool.not_eq_true, riseWB_iff]
    exact fun hr => h (hr j (j + 1) (by omega) hj)
  unfold mayWB
  rw [this]; simp
theorem good_w {ls : List LR} {rs : List WR} {top : Int} (hm : mayB ls = true) (h64 : rs.length ≤ 64) (ht : 0 ≤ top ∧ top ≤ 60000) (hr : ∀ j, j + 1 < rs.length → cmpL rs[j]!.of rs[j + 1]!.of < 0) (ho : ∀ j, j < rs.length → mayRowB ls rs rs[j]! = true) : mayWB ls rs top = true := by
  have h1 : riseWB rs = true := by
    unfold riseWB
    rw [List.all_eq_true]
    intro i hi
    exact decide_eq_true (hr i (by have := List.mem_range.1 hi; omega))
  have h2 : (rs.any fun x => !mayRowB ls rs x) = false := List.any_eq_false.2 fun x hx => by
    obtain ⟨j, hj, rfl⟩ := List.getElem_of_mem hx
    have := ho j hj
    rw [getElem!_pos rs j hj] at this
    rw [this]; simp
  unfold mayWB
  rw [hm, h1, h2, decide_eq_true h64, decide_eq_true ht.1, decide_eq_true ht.2]; rfl
theorem is_self {rs : List WR} {x : WR} (hx : x ∈ rs) : isL rs x.of = true := by
  unfold isL rowL
  rw [List.find?_isSome]
  exact ⟨x, hx, by simp⟩
end Go.Proofs.YticjgmhgpeihjaaGreatDoor
