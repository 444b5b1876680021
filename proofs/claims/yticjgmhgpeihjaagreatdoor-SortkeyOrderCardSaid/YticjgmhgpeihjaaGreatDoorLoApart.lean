/-
  Layer lore: Apart.
-/
import Derived.Test.YticjgmhgpeihjaaGreatDoorLoMay2
namespace Go.Gz
/-- one rune taken apart. -/
def ap1 (ls : List LR) (r : Int) : List Int := if 0 < (toL ls r).length then toL ls r else [r]
def apartL (ls : List LR) (s : List Int) : List Int := s.flatMap (ap1 ls)
theorem apart_nil (ls : List LR) : apartL ls [] = [] := rfl
theorem apart_append (ls : List LR) (a b : List Int) : apartL ls (a ++ b) = apartL ls a ++ apartL ls b := by simp [apartL]
theorem apart_snoc (ls : List LR) (a : List Int) (r : Int) : apartL ls (a ++ [r]) = apartL ls a ++ ap1 ls r := by simp [apartL]
theorem ap1_le {ls : List LR} (h : ∀ x ∈ ls, x.to.length ≤ 3) (r : Int) : (ap1 ls r).length ≤ 3 := by
  unfold ap1 toL
  split
  · rcases find_mem (ls := ls) (r := r) with ⟨hm, _⟩ | hz
    · exact h _ hm
    · rw [hz]; exact Nat.zero_le _
  · simp
theorem apart_le {ls : List LR} (h : ∀ x ∈ ls, x.to.length ≤ 3) : ∀ s : List Int, (apartL ls s).length ≤ 3 * s.length
  | [] => by simp [apartL]
  | r :: s => by
    have h1 := apart_le h s
    have h2 := ap1_le h r
    have e : apartL ls (r :: s) = ap1 ls r ++ apartL ls s := by simp [apartL]
    rw [e, List.length_append, List.length_cons]; omega
end Go.Gz
namespace Go.Proofs.YticjgmhgpeihjaaGreatDoor
open Go.RowKit Go.Gz Go.Sort

/-- a slice of the call's own that a call returned. -/
def RetOwn (W : World) (xs : List Int) (e : Ending) (w' : World) : Prop := ∃ v, e = .returned v ∧ Below W.heap.size W w' ∧ Own w' W.heap.size 21 .i32 v xs
def ApRel (W : World) (ls : List LR) (s : List Int) (v i : Value) (wr : World) (g : Nat) : Prop := ∃ k : Nat, i = .int .i64 k ∧ k ≤ s.length ∧ s.length - k ≤ g ∧ Below W.heap.size W wr ∧ Own wr W.heap.size 21 .i32 v (apartL ls (s.take k))

theorem own_below {w w' : World} {B : Nat} {e : TypeId} {k : IntKind} {v : Value} {xs : List Int} (h : Own w B e k v xs) (hb : Below w.heap.size w w') : Own w' B e k v xs := by
  obtain ⟨h1, h2 | ⟨g, cap, cur, hv, hg, hh, hr⟩⟩ := h
  · exact ⟨h1, Or.inl h2⟩
  · exact ⟨h1, Or.inr ⟨g, cap, cur, hv, hg, (hb.block g (Array.getElem?_eq_some_iff.1 hh).1).trans hh, hr⟩⟩

theorem take_snoc_getD (s : List Int) (k : Nat) (h : k < s.length) : s.take (k + 1) = s.take k ++ [s.getD k 0] := by
  rw [List.take_succ_eq_append_getElem h]; simp [List.getD, h]

set_option maxHeartbeats 1000000 in
set_option maxRecDepth 100000 in
theorem apart_any (ls : List LR) (hr : Rising ls) (h3 : ∀ x ∈ ls, x.to.length ≤ 3) (p : Option Addr) (cap : Nat) (s : List Int) (q : Option Addr) (c : Nat) (W : World) (hl : Lores W p ls) (hs : Row W .i32 q s) (hsz : ls.length < 1000000) (hz : s.length ≤ 100000) :
    Calls Tryz.prog 54 #[.slice p ls.length cap, .slice q s.length c] W (RetOwn W (apartL ls s)) := by
  have HL := Lib.hid hl
  have HS := Lib.hid hs; clear hs
  have HR := Lib.hid hr
  have H3 := Lib.hid h3; clear h3
  have h1 := Lib.hid (rising_ok ls hr p cap W hl hsz)
  clear hl hr
  obtain ⟨i0, hi, hz0, hz1, hz2⟩ := info_parts info_rune
  go_enter Tryz.func54, Tryz.ntmps54
  go_wp2_with fail
  refine h1.out.mono ?_
  rintro e w1 ⟨rfl, hb1⟩
  have hs1 := hb1.size
  clear h1
  go_wp2_with (at_make; refine wpList_make_own _ rfl _ _ 36 rfl W.heap.size 21 i0 (.int .i32 0) 1 Tryz.underlying36 hi hz0 hz1 _ _ _ s.length rfl rfl rfl ?by1 ?by2 hs1 ?_)
  case by1 => rw [hz2]; omega
  case by2 => unfold maxLen; omega
  intro w2 hown hgrow
  have hb2 := Lib.hid (hb1.grown hgrow hs1 (fun k hk => by cases hk))
  have HO := Lib.hid hown
  clear hown hgrow hi hz0 hz1 hz2 hb1 hs1
  go_wp2_with fail
  go_loopg [5, 16] s.length (fun g v i wr => Hid (ApRel W ls s v i wr g))
  case atStart => exact Lib.hid ⟨0, rfl, Nat.zero_le _, by omega, hb2.out, by rw [List.take_zero, apart_nil]; exact HO.out⟩
  case round =>
    clear hb2 HO
    have hrel' := hrel.out
    clear hrel
    obtain ⟨k, rfl, hk, hg, hb, hown⟩ := hrel'
    have HB := Lib.hid hb; clear hb
    have HO := Lib.hid hown; clear hown
    have hsz2 := HB.out.size
    by_cases hlt : k < s.length
    · have hltz : (k : Int) < (s.length : Int) := by omega
      obtain ⟨b, o, rfl, hbW, hcell⟩ := row_cell HS.out HB.out hlt
      have hts := Lib.hid (take_snoc_getD s k hlt)
      obtain ⟨r, hrr⟩ : ∃ r, s.getD k 0 = r := ⟨_, rfl⟩
      rw [hrr] at hcell hts
      clear hrr
      have hf := Lib.hid (find_any ls HR.out p cap r wr (HL.out.below HB.out) hsz)
      have hlen := apart_le H3.out (s.take k)
      rw [List.length_take] at hlen
      go_wp2_with fail
      refine hf.out.mono ?_
      rintro e w3 ⟨rfl, hb3, hto⟩
      have HB3 := Lib.hid (HB.out.trans (hb3.mono hsz2))
      have HO3 := Lib.hid (own_below HO.out hb3)
      have HT := Lib.hid hto
      clear hb3 hto hf
      have hsz3 := HB3.out.size
      have hfd := fun w : World => field2 (findL ls r).r (findL ls r).c (findL ls r).p (findL ls r).to.length (findL ls r).cap w
      obtain ⟨x, hx⟩ : ∃ x, findL ls r = x := ⟨_, rfl⟩
      have e1 : ap1 ls r = if 0 < x.to.length then x.to else [r] := by unfold ap1 toL; rw [hx]
      have ha1 := ap1_le H3.out r
      rw [hx] at HT hfd ⊢
      clear hx
      by_cases hpos : 0 < x.to.length
      · have hposz : (0 : Int) < (x.to.length : Int) := by omega
        rw [if_pos hpos] at e1
        rw [e1] at ha1
        have E1 := Lib.hid e1; clear e1
        go_wp2_with (at_builtin; refine wpList_own_row rfl _ _ 36 rfl 21 .i32 4 Tryz.underlying36 info_rune (by decide) W.heap.size _ _ rfl HO3.out x.p x.cap x.to rfl HT.out.1 HT.out.2.2 (by omega) hsz3 ?_)
        intro v' w4 hown4 hgrow4
        have HB4 := Lib.hid (HB3.out.grown hgrow4 hsz3 (fun g hg => HO3.out.lt g hg))
        have HO4 := Lib.hid hown4; clear hown4 hgrow4
        go_wp2_with fail
        go_roundg (s.length - (k + 1))
        case measure => omega
        case rel => exact Lib.hid ⟨k + 1, by go_num, by omega, by omega, HB4.out, by rw [hts.out, apart_snoc, E1.out]; exact HO4.out⟩
      · have hposz : ¬ (0 : Int) < (x.to.length : Int) := by omega
        have hposd : decide (0 < x.to.length) = false := decide_eq_false hpos
        rw [if_neg hpos] at e1
        have E1 := Lib.hid e1; clear e1
        go_wp2_with (at_builtin; refine wpList_own_push rfl _ _ 36 rfl 21 .i32 4 Tryz.underlying36 info_rune (by decide) W.heap.size _ _ rfl (HO3.out.alloc _) w3.heap.size 1 1 [r] rfl rfl ?newCells (by omega) ?below ?_)
        case newCells =>
          intro j hj
          match j, hj with
          | 0, _ => simp
        case below => simp; omega
        intro v' w4 hown4 hgrow4
        have HB4 := Lib.hid ((HB3.out.alloc hsz3 _).grown hgrow4 (by simp; omega) (fun g hg => HO3.out.lt g hg))
        have HO4 := Lib.hid hown4; clear hown4 hgrow4
        go_wp2_with fail
        go_roundg (s.length - (k + 1))
        case measure => omega
        case rel => exact Lib.hid ⟨k + 1, by go_num, by omega, by omega, HB4.out, by rw [hts.out, apart_snoc, E1.out]; exact HO4.out⟩
    · obtain rfl : k = s.length := by omega
      have hltz : ¬ (s.length : Int) < (s.length : Int) := by omega
      go_wp2_with fail
      go_ret
      exact ⟨_, rfl, HB.out, by have := HO.out; rw [List.take_length] at this; exact this⟩
end Go.Proofs.YticjgmhgpeihjaaGreatDoor
