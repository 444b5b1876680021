/-
  Several texts in one: NtAwake, NtKnM, NtRows.
-/
import Derived.Test.YtbhojddakmgdmaaMg24
import Derived.Test.YtbhojddakmgdmaaNtSm
import Derived.Test.YtbhojddakmgdmaaMg22
import Derived.Great.CaseRows
import Derived.Deep.MidRow
namespace Go.Proofs.Ytbhojddakmgdmaa
open Go.RowKit Go.Gz

/-- the document's note: where is the atlas? -/
def whN : NtL := { ntN with kd := 3, fr := 100, to_ := 0 }
abbrev whC : Array Value := #[.int .i64 3, .int .i64 100, .int .i64 0, .int .i64 0, .int .i64 0, .int .i64 0, .int .i64 0, .int .i64 0, .string ⟨#[]⟩, .string ⟨#[]⟩, .string ⟨#[]⟩, .string ⟨#[]⟩, .int .i64 0, .int .i64 0, .int .i64 0, .int .i64 0, .bool false, .string ⟨#[]⟩, .slice none 0 0, .string ⟨#[]⟩, .bool false, .string ⟨#[]⟩, .string ⟨#[]⟩, .slice none 0 0, .slice none 0 0, .int .i64 0, .slice none 0 0]
theorem whN_val : ntV whN ntQ = .agg whC := rfl
theorem whN_in (w : World) : NtIn w whN ntQ := ⟨Or.inl rfl, Or.inl rfl, Or.inl rfl, (fun e he => by cases he), Or.inl rfl⟩
theorem whN_sm : NtSm whN := ⟨by decide, by decide, by decide, by decide, (fun e he => by cases he), by decide⟩
theorem whN_pack : ∃ Y, packN whN = some Y ∧ 0 < Y.length ∧ Y.length ≤ 1000000 := by
  have h1 : partyB 100 = true := by decide
  have h2 : partyB 0 = true := by decide
  have h3 : fitsB whN = true := by
    show bareB whN = true
    unfold bareB
    exact @decide_eq_true _ (Classical.propDecidable _) ⟨rfl, rfl, rfl, ⟨rfl, rfl⟩, rfl, ⟨rfl, rfl⟩, rfl, rfl⟩
  have h4 : ∃ Y, layN whN = some Y ∧ 0 < Y.length ∧ Y.length ≤ 1000000 := ⟨_, rfl, by decide, by decide⟩
  obtain ⟨Y, h5, h6, h7⟩ := h4
  exact ⟨Y, by unfold packN; rw [if_pos ⟨h1, h2, by decide, h3⟩]; exact h5, h6, h7⟩

theorem fieldA1 (a : Int) (p : Option Addr) (n k : Nat) (w : World) : (Instr.field 42 (.agg #[.int .i64 a, .slice p n k]) 1).run Try.prog w = .ok (.slice p n k) w := by kernel_rfl
set_option maxHeartbeats 8000000 in
set_option maxRecDepth 100000 in
theorem awake_n (w : World) : Calls Try.prog 7 #[] w fun e w' => e = .returned (.bool true) ∧ Below w.heap.size w w' := by
  obtain ⟨Y, hY, hY0, hY1⟩ := whN_pack
  obtain ⟨W1, hW1⟩ : ∃ W1, w.alloc (.cells whC 44) = W1 := ⟨_, rfl⟩
  have hb1 : Below w.heap.size w W1 := hW1 ▸ (Below.refl _ _).alloc (Nat.le_refl _) _
  have hz1 : W1.heap.size = w.heap.size + 1 := by rw [← hW1]; simp
  have HA1 := Lib.hid (show W1.heap[w.heap.size]? = some (.cells whC 44 (0, 0)) from hW1 ▸ new_block _ _ _)
  have HB1 := Lib.hid hb1
  have HZ1 := Lib.hid hz1
  have cp := pack_n whN ntQ W1 (whN_in _) whN_sm
  rw [hY] at cp
  have CP := Lib.hid cp
  have CMY := Lib.hid (show ∀ w1, Calls Try.prog 11 #[ntV whN ntQ] w1 fun e w' => e = .returned (.bool true) ∧ Below w1.heap.size w1 w' from fun w1 => by
    have := may_n whN ntQ w1 (whN_in _) whN_sm
    rwa [hY] at this)
  have CRD := Lib.hid (fun p cap w1 hp => read_back whN Y hY hY1 p cap w1 hp)
  have CFA := Lib.hid (fun w1 => first_any 1 w1)
  have HST := Lib.hid (note_store w whC w.heap.size rfl rfl)
  have HIW := Lib.hid (show (Try.prog.info? 44).map (·.size) = some whC.size from info_note)
  have HOW := Lib.hid (show whC.all (·.oneCell') = true from nt_one whN ntQ)
  have HW1 := Lib.hid hW1
  have CSM := Lib.hid (fun m P w1 hm (hs : NtSame whN m) => same_n whN m ntQ P w1 true ⟨fun _ => hs, fun _ => rfl⟩ (whN_in _) hm (fun e he => by cases he) (fun e he => by
    have h0 : m.la = [] := by have := hs.la; simpa [whN, ntN] using this.symm
    rw [h0] at he; cases he) (by decide) (by rw [← hs.rep]; decide) (by decide) (by rw [← hs.ls]; decide) (by decide) (by
    have h0 : m.la = [] := by have := hs.la; simpa [whN, ntN] using this.symm
    rw [h0]; decide) (by decide) (by rw [← hs.sh]; decide))
  rw [whN_val] at CP CMY CSM
  obtain ⟨y, hy⟩ : ∃ y, Y.length = y := ⟨_, rfl⟩
  have HY := Lib.hid hy
  have hyz : (y : Int) > 0 := by omega
  clear hY hY1 hb1 hz1 hW1 cp hY0
  go_enter Try.func7, Try.ntmps7
  go_upto_region 2 with (with_reducible refine wpList_store_row rfl 44 (.tmp 1) (.tmp 6) rfl w.heap.size whC rfl rfl 44 noteZ HST.out.1 HIW.out HST.out.2.1 HOW.out ?_)
  rw [HST.out.2.2, HW1.out]
  go_wp2_with (with_reducible refine wpList_load_row rfl 44 (.tmp 1) rfl w.heap.size rfl 44 whC (0, 0) _ HA1.out Try.underlying44 rfl HIW.out ?_)
  refine CP.out.mono ?_
  rintro e w2 ⟨v2, rfl, ho2, hb2⟩
  obtain ⟨q2, d2, rfl, -, -, hr2⟩ := own_row ho2
  rw [show ((some Y).getD [] : List UInt8) = Y from rfl] at hr2
  rw [show (nums ((some Y).getD [])).length = y from by rw [nums_length]; exact hy]
  rw [show errP (some Y) = 0 from rfl]
  have HB2 := Lib.hid (HB1.out.trans (hb2.mono (by have := HZ1.out; omega)))
  have HA2 := Lib.hid (show w2.heap[w.heap.size]? = some (.cells whC 44 (0, 0)) by rw [hb2.block _ (by have := HZ1.out; omega)]; exact HA1.out)
  have HS2 := Lib.hid (show w.heap.size + 1 ≤ w2.heap.size by have := hb2.size; have := HZ1.out; omega)
  have CR := CRD.out q2 d2 w2 hr2
  rw [hy] at CR
  have CR := Lib.hid CR
  clear ho2 hb2 hr2 hy CRD CP
  go_wp2_with fail
  refine CR.out.mono ?_
  rintro e w3 ⟨m, P, rfl, hb3, hin3, hsm⟩
  have HIN3 := Lib.hid hin3
  have HSMM := Lib.hid hsm
  have HB3 := Lib.hid (HB2.out.trans (hb3.mono HB2.out.size))
  have HA3 := Lib.hid (show w3.heap[w.heap.size]? = some (.cells whC 44 (0, 0)) by rw [hb3.block _ (by have := HS2.out; omega)]; exact HA2.out)
  have HS3 := Lib.hid (show w.heap.size + 1 ≤ w3.heap.size by have := hb3.size; have := HS2.out; omega)
  have CS1 := Lib.hid (fun w1 h1 => CSM.out m P w1 h1 hsm)
  unfold ntV at CS1 ⊢
  obtain ⟨c, hc⟩ : ∃ c, (ntList m P).toArray = c := ⟨_, rfl⟩
  rw [hc] at CS1 ⊢
  have hcs : c.size = 27 := by rw [← hc]; rfl
  have HSZ := Lib.hid (show (Try.prog.info? 44).map (·.size) = some c.size by rw [hcs]; exact info_note)
  have HONE := Lib.hid (show c.all (·.oneCell') = true by rw [← hc]; exact nt_one m P)
  have HST3 := Lib.hid (note_store w3 c w3.heap.size rfl hcs)
  obtain ⟨W4, hW4⟩ : ∃ W4, w3.alloc (.cells c 44) = W4 := ⟨_, rfl⟩
  have hb4 : Below w3.heap.size w3 W4 := hW4 ▸ (Below.refl _ _).alloc (Nat.le_refl _) _
  have HC4 := Lib.hid (show W4.heap[w3.heap.size]? = some (.cells c 44 (0, 0)) from hW4 ▸ new_block _ _ _)
  have HA4 := Lib.hid (show W4.heap[w.heap.size]? = some (.cells whC 44 (0, 0)) by rw [hb4.block _ (by have := HS3.out; omega)]; exact HA3.out)
  have HB4 := Lib.hid (HB3.out.trans (hb4.mono HB3.out.size))
  have HS4 := Lib.hid (show w.heap.size + 1 ≤ W4.heap.size by have := hb4.size; have := HS3.out; omega)
  have CS := Lib.hid (CS1.out W4 (hin3.below hb4))
  have HW4 := Lib.hid hW4
  clear hb3 hin3 hsm hc hcs hW4 hb4 CR CS1 CSM
  go_upto_region 4 with (with_reducible refine wpList_store_row rfl 44 (.tmp 4) (.tmp 15) rfl w3.heap.size c rfl rfl 44 noteZ HST3.out.1 HSZ.out HST3.out.2.1 HONE.out ?_)
  rw [HST3.out.2.2, HW4.out]
  go_wp2_with (first | (refine wpList_load_rowW (by simp [Region.wanted, yielded, Act.put]) 44 (.tmp 1) rfl w.heap.size rfl 44 whC (0, 0) _ HA4.out Try.underlying44 rfl HIW.out ?_) | (refine wpList_load_rowW (by simp [Region.wanted, yielded, Act.put]) 44 (.tmp 4) rfl w3.heap.size rfl 44 c (0, 0) _ HC4.out Try.underlying44 rfl HSZ.out ?_))
  refine CS.out.mono ?_
  rintro e w5 ⟨rfl, hb5⟩
  have HB5 := Lib.hid (HB4.out.trans (hb5.mono HB4.out.size))
  have HA5 := Lib.hid (show w5.heap[w.heap.size]? = some (.cells whC 44 (0, 0)) by rw [hb5.block _ (by have := HS4.out; omega)]; exact HA4.out)
  have CM := Lib.hid (CMY.out w5)
  clear hb5
  go_wp2_with (refine wpList_load_rowW (by simp [Region.wanted, yielded, Act.put]) 44 (.tmp 1) rfl w.heap.size rfl 44 whC (0, 0) _ HA5.out Try.underlying44 rfl HIW.out ?_)
  refine CM.out.mono ?_
  rintro e w6 ⟨rfl, hb6⟩
  have HB6 := Lib.hid (HB5.out.trans (hb6.mono HB5.out.size))
  have CF := Lib.hid (CFA.out w6)
  clear hb6
  go_wp2_with fail
  refine CF.out.mono ?_
  rintro e w7 ⟨p7, c7, rfl, -, -, hb7⟩
  have HB7 := Lib.hid (HB6.out.trans (hb7.mono HB6.out.size))
  have hfd := fieldA1 1 p7 1 c7
  clear hb7
  go_wp2_with fail
  go_ret
  exact ⟨rfl, HB7.out⟩
end Go.Proofs.Ytbhojddakmgdmaa
namespace Go.Proofs.Ytbhojddakmgdmaa
open Go.RowKit Go.Gz

def sd1 (m : Int) : List Sd := [⟨⟨ByteArray.empty, ByteArray.empty⟩, m, 1⟩]
/-- the notes that may be. -/
def okL : List NtL := [{ ntN with kd := 1, fr := 103, to_ := 5 }, { ntN with kd := 2, fr := 1, to_ := 100 }, { ntN with kd := 5, fr := 2, to_ := 0, tk := 7 }, { ntN with kd := 6, fr := 0, to_ := 2, ae := 1, sh := sd1 1 }, { ntN with kd := 4, fr := 0, to_ := 101, ae := 1, sh := sd1 5 }, { ntN with kd := 12, fr := 1, to_ := 0, sf := [120], ep := 268435455 }, { ntN with kd := 9, fr := 0, to_ := 1, ls := [([97], [])] }]
/-- those that may not. -/
def badL : List NtL := [ntN, { ntN with kd := 13, fr := 0, to_ := 1 }, { ntN with kd := 3, fr := 0, to_ := 0 }, { ntN with kd := 3, fr := 6, to_ := 0 }, { ntN with kd := 3, fr := 104, to_ := 0 }, { ntN with kd := 3, fr := 100, to_ := -1 }, { ntN with kd := 4, fr := 0, to_ := 100 }, { ntN with kd := 3, fr := 100, to_ := 0, tk := 1 }, { ntN with kd := 7, fr := 0, to_ := 1, ls := [([], [])] }, { ntN with kd := 5, fr := 1, to_ := 0, tk := 268435456 }, { ntN with kd := 10, fr := 1, to_ := 0, ep := -1 }, { ntN with kd := 1, fr := 100, to_ := 1, ask := { askZ with s := -1 } }, { ntN with kd := 1, fr := 100, to_ := 1, rep := { repZ with s := 1 } }]
theorem bare_yes {n : NtL} (h : n.ep = 0 ∧ n.tk = 0 ∧ n.ask = askZ ∧ (n.sf = [] ∧ n.st = []) ∧ n.rep = repZ ∧ (n.ls = [] ∧ n.la = []) ∧ (n.ae = 0 ∧ n.sh = [])) : bareB n = true := by
  unfold bareB
  exact @decide_eq_true _ (Classical.propDecidable _) h
theorem bare_no {n : NtL} (h : ¬ (n.ep = 0 ∧ n.tk = 0 ∧ n.ask = askZ ∧ (n.sf = [] ∧ n.st = []) ∧ n.rep = repZ ∧ (n.ls = [] ∧ n.la = []) ∧ (n.ae = 0 ∧ n.sh = []))) : bareB n = false := by
  unfold bareB
  exact @decide_eq_false _ (Classical.propDecidable _) h
theorem pack_yes {n : NtL} {Y : List UInt8} (h1 : partyB n.fr = true) (h2 : partyB n.to_ = true) (h3 : n.fr ≠ n.to_) (h4 : fitsB n = true) (h5 : layN n = some Y) : packN n = some Y := by
  unfold packN; rw [if_pos ⟨h1, h2, h3, h4⟩]; exact h5
theorem pack_no {n : NtL} (h : ¬ (partyB n.fr = true ∧ partyB n.to_ = true ∧ n.fr ≠ n.to_ ∧ fitsB n = true)) : packN n = none := by
  unfold packN; rw [if_neg h]
theorem pack_lno {n : NtL} (h : layN n = none) : packN n = none := by
  unfold packN; rw [h]; split <;> rfl
theorem may_one {m : Int} (h : 1 ≤ m ∧ m ≤ 5) : mayAB 5 1 (sd1 m) = true := (mayAB_iff _ _ _).2 (MayA.first h.1 h.2 (by decide))
theorem may_nil (e : Int) : mayAB 5 e [] = false := mayAB_no fun h => by have := h.ln.1; simp at this
set_option maxRecDepth 100000 in
theorem ok_pack : ∀ n ∈ okL, ∃ Y, packN n = some Y ∧ Y.length ≤ 1000000 := by
  intro n hn
  simp only [okL, List.mem_cons, List.not_mem_nil, or_false] at hn
  rcases hn with rfl | rfl | rfl | rfl | rfl | rfl | rfl
  · have h : ∃ Y, layN { ntN with kd := 1, fr := 103, to_ := 5 } = some Y ∧ Y.length ≤ 1000000 := ⟨_, rfl, by decide⟩
    obtain ⟨Y, h1, h2⟩ := h
    exact ⟨Y, pack_yes (by decide) (by decide) (by decide) (bare_yes ⟨rfl, rfl, rfl, ⟨rfl, rfl⟩, rfl, ⟨rfl, rfl⟩, rfl, rfl⟩) h1, h2⟩
  · have h : ∃ Y, layN { ntN with kd := 2, fr := 1, to_ := 100 } = some Y ∧ Y.length ≤ 1000000 := ⟨_, rfl, by decide⟩
    obtain ⟨Y, h1, h2⟩ := h
    exact ⟨Y, pack_yes (by decide) (by decide) (by decide) (bare_yes ⟨rfl, rfl, rfl, ⟨rfl, rfl⟩, rfl, ⟨rfl, rfl⟩, rfl, rfl⟩) h1, h2⟩
  · have h : ∃ Y, layN { ntN with kd := 5, fr := 2, to_ := 0, tk := 7 } = some Y ∧ Y.length ≤ 1000000 := ⟨_, rfl, by decide⟩
    obtain ⟨Y, h1, h2⟩ := h
    exact ⟨Y, pack_yes (by decide) (by decide) (by decide) (bare_yes ⟨rfl, rfl, rfl, ⟨rfl, rfl⟩, rfl, ⟨rfl, rfl⟩, rfl, rfl⟩) h1, h2⟩
  · have h : ∃ Y, layN { ntN with kd := 6, fr := 0, to_ := 2, ae := 1, sh := sd1 1 } = some Y ∧ Y.length ≤ 1000000 := ⟨_, rfl, by decide⟩
    obtain ⟨Y, h1, h2⟩ := h
    refine ⟨Y, pack_yes (by decide) (by decide) (by decide) ?_ h1, h2⟩
    show (mayAB 5 1 (sd1 1) && bareB _) = true
    rw [may_one (by decide), Bool.true_and]
    exact bare_yes ⟨rfl, rfl, rfl, ⟨rfl, rfl⟩, rfl, ⟨rfl, rfl⟩, rfl, rfl⟩
  · have h : ∃ Y, layN { ntN with kd := 4, fr := 0, to_ := 101, ae := 1, sh := sd1 5 } = some Y ∧ Y.length ≤ 1000000 := ⟨_, rfl, by decide⟩
    obtain ⟨Y, h1, h2⟩ := h
    refine ⟨Y, pack_yes (by decide) (by decide) (by decide) ?_ h1, h2⟩
    show (mayAB 5 1 (sd1 5) && bareB _) = true
    rw [may_one (by decide), Bool.true_and]
    exact bare_yes ⟨rfl, rfl, rfl, ⟨rfl, rfl⟩, rfl, ⟨rfl, rfl⟩, rfl, rfl⟩
  · have h : ∃ Y, layN { ntN with kd := 12, fr := 1, to_ := 0, sf := [120], ep := 268435455 } = some Y ∧ Y.length ≤ 1000000 := ⟨_, rfl, by decide⟩
    obtain ⟨Y, h1, h2⟩ := h
    exact ⟨Y, pack_yes (by decide) (by decide) (by decide) (bare_yes ⟨rfl, rfl, rfl, ⟨rfl, rfl⟩, rfl, ⟨rfl, rfl⟩, rfl, rfl⟩) h1, h2⟩
  · have h : ∃ Y, layN { ntN with kd := 9, fr := 0, to_ := 1, ls := [([97], [])] } = some Y ∧ Y.length ≤ 1000000 := ⟨_, rfl, by decide⟩
    obtain ⟨Y, h1, h2⟩ := h
    exact ⟨Y, pack_yes (by decide) (by decide) (by decide) (bare_yes ⟨rfl, rfl, rfl, ⟨rfl, rfl⟩, rfl, ⟨rfl, rfl⟩, rfl, rfl⟩) h1, h2⟩
theorem bad_pack : ∀ n ∈ badL, packN n = none := by
  intro n hn
  simp only [badL, List.mem_cons, List.not_mem_nil, or_false] at hn
  rcases hn with rfl | rfl | rfl | rfl | rfl | rfl | rfl | rfl | rfl | rfl | rfl | rfl | rfl
  · exact pack_no fun h => h.2.2.1 rfl
  · exact pack_no fun h => absurd (show (false : Bool) = true from h.2.2.2) (by decide)
  · exact pack_no fun h => h.2.2.1 rfl
  · exact pack_no fun h => absurd h.1 (by decide)
  · exact pack_no fun h => absurd h.1 (by decide)
  · exact pack_no fun h => absurd h.2.1 (by decide)
  · exact pack_no fun h => by
      have h := h.2.2.2
      rw [show fitsB { ntN with kd := 4, fr := 0, to_ := 100 } = (mayAB 5 0 [] && bareB _) from rfl, may_nil] at h
      cases h
  · exact pack_no fun h => by
      have h := h.2.2.2
      rw [show fitsB { ntN with kd := 3, fr := 100, to_ := 0, tk := 1 } = bareB _ from rfl, bare_no (fun h => absurd h.2.1 (by decide))] at h
      cases h
  · exact pack_no fun h => by
      have h := h.2.2.2
      rw [show fitsB { ntN with kd := 7, fr := 0, to_ := 1, ls := [([], [])] } = bareB { ntN with kd := 7, fr := 0, to_ := 1, ls := [([], [])] } from rfl, bare_no (fun h => by have := h.2.2.2.2.2.1.1; cases this)] at h
      cases h
  · exact pack_lno rfl
  · exact pack_lno rfl
  · exact pack_lno rfl
  · exact pack_no fun h => by
      have h := h.2.2.2
      rw [show fitsB { ntN with kd := 1, fr := 100, to_ := 1, rep := { repZ with s := 1 } } = bareB { ntN with kd := 1, fr := 100, to_ := 1, rep := { repZ with s := 1 } } from rfl, bare_no (fun h => by have := congrArg RepL.s h.2.2.2.2.1; exact absurd this (by decide))] at h
      cases h
theorem ok_sm : ∀ n ∈ okL, NtSm n ∧ n.la = [] ∧ n.rep.ls.length ≤ 300 ∧ n.ls.length ≤ 1000000 ∧ n.sh.length ≤ 1000000 := by
  intro n hn
  simp only [okL, List.mem_cons, List.not_mem_nil, or_false] at hn
  rcases hn with rfl | rfl | rfl | rfl | rfl | rfl | rfl
  all_goals exact ⟨⟨by decide, by decide, by decide, by decide, (fun e he => by cases he), by decide⟩, rfl, by decide, by decide, by decide⟩
theorem bad_sm : ∀ n ∈ badL, NtSm n := by
  intro n hn
  simp only [badL, List.mem_cons, List.not_mem_nil, or_false] at hn
  rcases hn with rfl | rfl | rfl | rfl | rfl | rfl | rfl | rfl | rfl | rfl | rfl | rfl | rfl
  all_goals exact ⟨by decide, by decide, by decide, by decide, (fun e he => by cases he), by decide⟩
end Go.Proofs.Ytbhojddakmgdmaa
namespace Go.Proofs.Ytbhojddakmgdmaa
open Go.RowKit Go.Gz

def ntVs (L : List (NtL × NtP)) : List Value := L.map fun x => ntV x.1 x.2
theorem ntV_size (n : NtL) (P : NtP) : (ntV n P).cells.size = 27 := rfl
theorem ntVs_size (L : List (NtL × NtP)) : ∀ v ∈ ntVs L, v.cells.size = 27 := fun v hv => by
  obtain ⟨x, _, rfl⟩ := List.mem_map.1 hv
  exact ntV_size _ _
/-- the notes' cells lie in block g. -/
def NtRow (w : World) (g : Nat) (L : List (NtL × NtP)) : Prop := w.heap[g]? = some (.cells ((ntVs L).flatMap fun v => v.cells.toList).toArray 44 (0, 0))
theorem NtRow.below {w w' : World} {g : Nat} {L : List (NtL × NtP)} (h : NtRow w g L) (hb : Below w.heap.size w w') : NtRow w' g L := by
  unfold NtRow
  rw [hb.block g (Array.getElem?_eq_some_iff.1 h).1]; exact h
theorem NtRow.lt {w : World} {g : Nat} {L : List (NtL × NtP)} (h : NtRow w g L) : g < w.heap.size := by
  exact (Array.getElem?_eq_some_iff.1 h).1
theorem NtRow.range {w : World} {g : Nat} {L : List (NtL × NtP)} (h : NtRow w g L) {j : Nat} (hj : j < L.length) : w.rangeAt g (j * 27) (ntList (L.getD j (ntN, ntQ)).1 (L.getD j (ntN, ntQ)).2) := by
  intro i v hi
  have hl : i < 27 := (List.getElem?_eq_some_iff.1 hi).1
  have h1 := cell_at h (j * 27 + i)
  rw [h1]
  have e : ((ntVs L).flatMap fun v => v.cells.toList).toArray[j * 27 + i]? = ((ntVs L).flatMap fun v => v.cells.toList)[j * 27 + i]? := by simp
  rw [e, Great.flat_get (s := 27) (by decide) _ (ntVs_size L)]
  have h2 : (j * 27 + i) / 27 = j := by omega
  have h3 : (j * 27 + i) % 27 = i := by omega
  rw [h2, h3]
  have h4 : (ntVs L)[j]? = some (ntV (L.getD j (ntN, ntQ)).1 (L.getD j (ntN, ntQ)).2) := by
    unfold ntVs
    simp [List.getD, hj]
  rw [h4]
  show (ntList (L.getD j (ntN, ntQ)).1 (L.getD j (ntN, ntQ)).2).toArray[i]? = some v
  rw [List.getElem?_toArray]; exact hi
/-- a literal of notes, its cells kept from sight. -/
theorem wpList_notes {P : Program} {ops : Array Oper} {rest : List Oper} {o : Oper} {a : Act} {w : World} {Q : Exit → Act → World → Prop} (hg : o.guard = none) (t e : TypeId) (parts : Array (Nat × Operand)) (L : List (NtL × NtP)) (n : Nat) (hn : L.length = n)
    (ho : o.op = .buildSlice t n parts) (ix : Nat → Nat) (N : Nat) (hN : w.heap.size = N)
    (hu : P.underlying t = some (.slice e)) (hsz : (P.info? e).map (·.size) = some 27) (hz : ((P.info? e).bind (·.zero)).isSome = true) (hpos : 0 < n) (hsmall : n * 27 ≤ 2 ^ 24)
    (hparts : parts.toList = (List.range n).map fun i => (i, Operand.tmp (ix i))) (hev : ∀ i, i < n → some (a.eval (.tmp (ix i))) = (ntVs L)[i]?)
    (C : Array Value) (hC : ((ntVs L).flatMap fun v => v.cells.toList).toArray = C)
    (h : wpList P ops Q rest (a.put o.dst (.slice (some ⟨N, 0, none⟩) n n)) (w.alloc (.cells C e))) : wpList P ops Q (o :: rest) a w := by
  have hl : (ntVs L).length = n := by unfold ntVs; rw [List.length_map, hn]
  subst hC
  subst hl
  refine Great.wpList_buildRows hg t e parts 27 (ntVs L) ho ix N hN o.dst rfl hu hsz hz (by decide) hpos hsmall hparts (ntVs_size L) (fun i hi => ?_) h
  have := hev i hi
  rw [List.getElem?_eq_getElem hi] at this
  exact Option.some.inj this
/-- the two rows of notes. -/
def okP (p3 p4 : Option Addr) (c3 c4 g : Nat) : List (NtL × NtP) := [(okL.getD 0 ntN, ntQ), (okL.getD 1 ntN, ntQ), (okL.getD 2 ntN, ntQ), (okL.getD 3 ntN, { ntQ with hp := p3, hk := c3 }), (okL.getD 4 ntN, { ntQ with hp := p4, hk := c4 }), (okL.getD 5 ntN, ntQ), (okL.getD 6 ntN, { ntQ with lp := some ⟨g, 0, none⟩, lk := 1 })]
def badP (g : Nat) : List (NtL × NtP) := [(badL.getD 0 ntN, ntQ), (badL.getD 1 ntN, ntQ), (badL.getD 2 ntN, ntQ), (badL.getD 3 ntN, ntQ), (badL.getD 4 ntN, ntQ), (badL.getD 5 ntN, ntQ), (badL.getD 6 ntN, ntQ), (badL.getD 7 ntN, ntQ), (badL.getD 8 ntN, { ntQ with lp := some ⟨g, 0, none⟩, lk := 1 }), (badL.getD 9 ntN, ntQ), (badL.getD 10 ntN, ntQ), (badL.getD 11 ntN, ntQ), (badL.getD 12 ntN, ntQ)]
theorem okP_mem (p3 p4 : Option Addr) (c3 c4 g : Nat) {j : Nat} (hj : j < 7) : ((okP p3 p4 c3 c4 g).getD j (ntN, ntQ)).1 ∈ okL := by
  obtain rfl | rfl | rfl | rfl | rfl | rfl | rfl : j = 0 ∨ j = 1 ∨ j = 2 ∨ j = 3 ∨ j = 4 ∨ j = 5 ∨ j = 6 := by omega
  all_goals simp [okP, okL, List.getD]
theorem badP_mem (g : Nat) {j : Nat} (hj : j < 13) : ((badP g).getD j (ntN, ntQ)).1 ∈ badL := by
  obtain rfl | rfl | rfl | rfl | rfl | rfl | rfl | rfl | rfl | rfl | rfl | rfl | rfl : j = 0 ∨ j = 1 ∨ j = 2 ∨ j = 3 ∨ j = 4 ∨ j = 5 ∨ j = 6 ∨ j = 7 ∨ j = 8 ∨ j = 9 ∨ j = 10 ∨ j = 11 ∨ j = 12 := by omega
  all_goals simp [badP, badL, List.getD]
theorem okP_in {w : World} {p3 p4 : Option Addr} {c3 c4 g : Nat} (h3 : RowK KS w p3 (sd1 1)) (h4 : RowK KS w p4 (sd1 5)) (hg : Recs w (some ⟨g, 0, none⟩) [([97], [])]) {j : Nat} (hj : j < 7) : NtIn w ((okP p3 p4 c3 c4 g).getD j (ntN, ntQ)).1 ((okP p3 p4 c3 c4 g).getD j (ntN, ntQ)).2 := by
  obtain rfl | rfl | rfl | rfl | rfl | rfl | rfl : j = 0 ∨ j = 1 ∨ j = 2 ∨ j = 3 ∨ j = 4 ∨ j = 5 ∨ j = 6 := by omega
  · exact ⟨Or.inl rfl, Or.inl rfl, Or.inl rfl, (fun e he => by cases he), Or.inl rfl⟩
  · exact ⟨Or.inl rfl, Or.inl rfl, Or.inl rfl, (fun e he => by cases he), Or.inl rfl⟩
  · exact ⟨Or.inl rfl, Or.inl rfl, Or.inl rfl, (fun e he => by cases he), Or.inl rfl⟩
  · exact ⟨Or.inl rfl, Or.inl rfl, Or.inl rfl, (fun e he => by cases he), h3⟩
  · exact ⟨Or.inl rfl, Or.inl rfl, Or.inl rfl, (fun e he => by cases he), h4⟩
  · exact ⟨Or.inl rfl, Or.inl rfl, Or.inl rfl, (fun e he => by cases he), Or.inl rfl⟩
  · exact ⟨Or.inl rfl, hg, Or.inl rfl, (fun e he => by cases he), Or.inl rfl⟩
theorem badP_in {w : World} {g : Nat} (hg : Recs w (some ⟨g, 0, none⟩) [([], [])]) {j : Nat} (hj : j < 13) : NtIn w ((badP g).getD j (ntN, ntQ)).1 ((badP g).getD j (ntN, ntQ)).2 := by
  obtain rfl | rfl | rfl | rfl | rfl | rfl | rfl | rfl | rfl | rfl | rfl | rfl | rfl : j = 0 ∨ j = 1 ∨ j = 2 ∨ j = 3 ∨ j = 4 ∨ j = 5 ∨ j = 6 ∨ j = 7 ∨ j = 8 ∨ j = 9 ∨ j = 10 ∨ j = 11 ∨ j = 12 := by omega
  all_goals first
    | exact ⟨Or.inl rfl, Or.inl rfl, Or.inl rfl, (fun e he => by cases he), Or.inl rfl⟩
    | exact ⟨Or.inl rfl, hg, Or.inl rfl, (fun e he => by cases he), Or.inl rfl⟩
theorem rec_block {w : World} {g : Nat} {a b : List UInt8} (h : w.heap[g]? = some (.cells #[.string (strB a), .string (strB b)] 54 (0, 0))) : Recs w (some ⟨g, 0, none⟩) [(a, b)] :=
  Or.inr ⟨g, 0, rfl, (Array.getElem?_eq_some_iff.1 h).1, fun j hj => by
    obtain rfl : j = 0 := by simpa using hj
    exact ⟨cell_at h 0, cell_at h 1⟩⟩
/-- a note loaded out of a row of them. -/
theorem run_load_note {P : Program} {o : Oper} {a : Act} {w : World} (ty : TypeId) (x : Operand) (ho : o.op = .load ty x) (b off : Nat) (hx : a.eval x = .pointer (some ⟨b, off, none⟩)) (cs : List Value) (d : TypeDesc) (hc : w.rangeAt b off cs)
    (hu : P.underlying ty = some d) (hd : d.isRow = true) (hi : (P.info? ty).map (·.size) = some cs.length) : (execOp a.eval o).run P w = .ok (.value (.agg cs.toArray)) w := by
  unfold execOp
  simp only [ho, hx, Instr.loadAt, Instr.sureAddr, Sem.run_bind, Sem.run_pure, Result.andThen_ok, run_loadVar_mid w b off ty cs d hc hu hd hi]
end Go.Proofs.Ytbhojddakmgdmaa
