/-
  Several texts in one: NtAwake, NtKnM, NtSum, SpFewS.
-/
import Derived.Test.YtfadpiipigkocaaMg22
import Derived.Test.YtfadpiipigkocaaNtSm
import Derived.Test.YtfadpiipigkocaaMg18
import Derived.Test.YtfadpiipigkocaaMg12
import Derived.Test.YtfadpiipigkocaaMg14
namespace Go.Proofs.Ytfadpiipigkocaa
open Go.RowKit Go.Gz

/-- the document's note: where is the atlas? -/
def whN : NtL := { ntN with kd := 3, fr := 100, to_ := 0 }
abbrev whC : Array Value := #[.int .i64 3, .int .i64 100, .int .i64 0, .int .i64 0, .int .i64 0, .int .i64 0, .int .i64 0, .int .i64 0, .string ⟨#[]⟩, .string ⟨#[]⟩, .string ⟨#[]⟩, .string ⟨#[]⟩, .int .i64 0, .int .i64 0, .int .i64 0, .int .i64 0, .bool false, .string ⟨#[]⟩, .slice none 0 0, .string ⟨#[]⟩, .bool false, .string ⟨#[]⟩, .string ⟨#[]⟩, .slice none 0 0, .slice none 0 0, .int .i64 0, .slice none 0 0]
theorem whN_val : ntV whN ntQ = .agg whC := rfl
theorem whN_in (w : World) : NtIn w whN ntQ := ⟨Or.inl rfl, Or.inl rfl, Or.inl rfl, (fun e he => by cases he), Or.inl rfl⟩
theorem whN_sm : NtSm whN := ⟨by decide, by decide, by decide, by decide, (fun e he => by cases he), by decide⟩
theorem whN_pack : ∃ Y, packN whN = some Y ∧ 0 < Y.length ∧ Y.length ≤ 1000000 := by
  have h1 : partyB 100 = true := by decide
  have h2 : partyB 0 = true := by decide
  have h3 : fitsB whN = true := by
    show bareB whN = true
    unfold bareB
    exact @decide_eq_true _ (Classical.propDecidable _) ⟨rfl, rfl, rfl, ⟨rfl, rfl⟩, rfl, ⟨rfl, rfl⟩, rfl, rfl⟩
  have h4 : ∃ Y, layN whN = some Y ∧ 0 < Y.length ∧ Y.length ≤ 1000000 := ⟨_, rfl, by decide, by decide⟩
  obtain ⟨Y, h5, h6, h7⟩ := h4
  exact ⟨Y, by unfold packN; rw [if_pos ⟨h1, h2, by decide, h3⟩]; exact h5, h6, h7⟩

theorem fieldA1 (a : Int) (p : Option Addr) (n k : Nat) (w : World) : (Instr.field 41 (.agg #[.int .i64 a, .slice p n k]) 1).run Try.prog w = .ok (.slice p n k) w := by kernel_rfl
set_option maxHeartbeats 8000000 in
set_option maxRecDepth 100000 in
theorem awake_n (w : World) : Calls Try.prog 4 #[] w fun e w' => e = .returned (.bool true) ∧ Below w.heap.size w w' := by
  obtain ⟨Y, hY, hY0, hY1⟩ := whN_pack
  obtain ⟨W1, hW1⟩ : ∃ W1, w.alloc (.cells whC 43) = W1 := ⟨_, rfl⟩
  have hb1 : Below w.heap.size w W1 := hW1 ▸ (Below.refl _ _).alloc (Nat.le_refl _) _
  have hz1 : W1.heap.size = w.heap.size + 1 := by rw [← hW1]; simp
  have HA1 := Lib.hid (show W1.heap[w.heap.size]? = some (.cells whC 43 (0, 0)) from hW1 ▸ new_block _ _ _)
  have HB1 := Lib.hid hb1
  have HZ1 := Lib.hid hz1
  have cp := pack_n whN ntQ W1 (whN_in _) whN_sm
  rw [hY] at cp
  have CP := Lib.hid cp
  have CMY := Lib.hid (show ∀ w1, Calls Try.prog 8 #[ntV whN ntQ] w1 fun e w' => e = .returned (.bool true) ∧ Below w1.heap.size w1 w' from fun w1 => by
    have := may_n whN ntQ w1 (whN_in _) whN_sm
    rwa [hY] at this)
  have CRD := Lib.hid (fun p cap w1 hp => read_back whN Y hY hY1 p cap w1 hp)
  have CFA := Lib.hid (fun w1 => first_any 1 w1)
  have HST := Lib.hid (note_store w whC w.heap.size rfl rfl)
  have HIW := Lib.hid (show (Try.prog.info? 43).map (·.size) = some whC.size from info_note)
  have HOW := Lib.hid (show whC.all (·.oneCell') = true from nt_one whN ntQ)
  have HW1 := Lib.hid hW1
  have CSM := Lib.hid (fun m P w1 hm (hs : NtSame whN m) => same_n whN m ntQ P w1 true ⟨fun _ => hs, fun _ => rfl⟩ (whN_in _) hm (fun e he => by cases he) (fun e he => by
    have h0 : m.la = [] := by have := hs.la; simpa [whN, ntN] using this.symm
    rw [h0] at he; cases he) (by decide) (by rw [← hs.rep]; decide) (by decide) (by rw [← hs.ls]; decide) (by decide) (by
    have h0 : m.la = [] := by have := hs.la; simpa [whN, ntN] using this.symm
    rw [h0]; decide) (by decide) (by rw [← hs.sh]; decide))
  rw [whN_val] at CP CMY CSM
  obtain ⟨y, hy⟩ : ∃ y, Y.length = y := ⟨_, rfl⟩
  have HY := Lib.hid hy
  have hyz : (y : Int) > 0 := by omega
  clear hY hY1 hb1 hz1 hW1 cp hY0
  go_enter Try.func4, Try.ntmps4
  go_upto_region 2 with (with_reducible refine wpList_store_row rfl 43 (.tmp 1) (.tmp 6) rfl w.heap.size whC rfl rfl 43 noteZ HST.out.1 HIW.out HST.out.2.1 HOW.out ?_)
  rw [HST.out.2.2, HW1.out]
  go_wp2_with (with_reducible refine wpList_load_row rfl 43 (.tmp 1) rfl w.heap.size rfl 43 whC (0, 0) _ HA1.out Try.underlying43 rfl HIW.out ?_)
  refine CP.out.mono ?_
  rintro e w2 ⟨v2, rfl, ho2, hb2⟩
  obtain ⟨q2, d2, rfl, -, -, hr2⟩ := own_row ho2
  rw [show ((some Y).getD [] : List UInt8) = Y from rfl] at hr2
  rw [show (nums ((some Y).getD [])).length = y from by rw [nums_length]; exact hy]
  rw [show errP (some Y) = 0 from rfl]
  have HB2 := Lib.hid (HB1.out.trans (hb2.mono (by have := HZ1.out; omega)))
  have HA2 := Lib.hid (show w2.heap[w.heap.size]? = some (.cells whC 43 (0, 0)) by rw [hb2.block _ (by have := HZ1.out; omega)]; exact HA1.out)
  have HS2 := Lib.hid (show w.heap.size + 1 ≤ w2.heap.size by have := hb2.size; have := HZ1.out; omega)
  have CR := CRD.out q2 d2 w2 hr2
  rw [hy] at CR
  have CR := Lib.hid CR
  clear ho2 hb2 hr2 hy CRD CP
  go_wp2_with fail
  refine CR.out.mono ?_
  rintro e w3 ⟨m, P, rfl, hb3, hin3, hsm⟩
  have HIN3 := Lib.hid hin3
  have HSMM := Lib.hid hsm
  have HB3 := Lib.hid (HB2.out.trans (hb3.mono HB2.out.size))
  have HA3 := Lib.hid (show w3.heap[w.heap.size]? = some (.cells whC 43 (0, 0)) by rw [hb3.block _ (by have := HS2.out; omega)]; exact HA2.out)
  have HS3 := Lib.hid (show w.heap.size + 1 ≤ w3.heap.size by have := hb3.size; have := HS2.out; omega)
  have CS1 := Lib.hid (fun w1 h1 => CSM.out m P w1 h1 hsm)
  unfold ntV at CS1 ⊢
  obtain ⟨c, hc⟩ : ∃ c, (ntList m P).toArray = c := ⟨_, rfl⟩
  rw [hc] at CS1 ⊢
  have hcs : c.size = 27 := by rw [← hc]; rfl
  have HSZ := Lib.hid (show (Try.prog.info? 43).map (·.size) = some c.size by rw [hcs]; exact info_note)
  have HONE := Lib.hid (show c.all (·.oneCell') = true by rw [← hc]; exact nt_one m P)
  have HST3 := Lib.hid (note_store w3 c w3.heap.size rfl hcs)
  obtain ⟨W4, hW4⟩ : ∃ W4, w3.alloc (.cells c 43) = W4 := ⟨_, rfl⟩
  have hb4 : Below w3.heap.size w3 W4 := hW4 ▸ (Below.refl _ _).alloc (Nat.le_refl _) _
  have HC4 := Lib.hid (show W4.heap[w3.heap.size]? = some (.cells c 43 (0, 0)) from hW4 ▸ new_block _ _ _)
  have HA4 := Lib.hid (show W4.heap[w.heap.size]? = some (.cells whC 43 (0, 0)) by rw [hb4.block _ (by have := HS3.out; omega)]; exact HA3.out)
  have HB4 := Lib.hid (HB3.out.trans (hb4.mono HB3.out.size))
  have HS4 := Lib.hid (show w.heap.size + 1 ≤ W4.heap.size by have := hb4.size; have := HS3.out; omega)
  have CS := Lib.hid (CS1.out W4 (hin3.below hb4))
  have HW4 := Lib.hid hW4
  clear hb3 hin3 hsm hc hcs hW4 hb4 CR CS1 CSM
  go_upto_region 4 with (with_reducible refine wpList_store_row rfl 43 (.tmp 4) (.tmp 15) rfl w3.heap.size c rfl rfl 43 noteZ HST3.out.1 HSZ.out HST3.out.2.1 HONE.out ?_)
  rw [HST3.out.2.2, HW4.out]
  go_wp2_with (first | (refine wpList_load_rowW (by simp [Region.wanted, yielded, Act.put]) 43 (.tmp 1) rfl w.heap.size rfl 43 whC (0, 0) _ HA4.out Try.underlying43 rfl HIW.out ?_) | (refine wpList_load_rowW (by simp [Region.wanted, yielded, Act.put]) 43 (.tmp 4) rfl w3.heap.size rfl 43 c (0, 0) _ HC4.out Try.underlying43 rfl HSZ.out ?_))
  refine CS.out.mono ?_
  rintro e w5 ⟨rfl, hb5⟩
  have HB5 := Lib.hid (HB4.out.trans (hb5.mono HB4.out.size))
  have HA5 := Lib.hid (show w5.heap[w.heap.size]? = some (.cells whC 43 (0, 0)) by rw [hb5.block _ (by have := HS4.out; omega)]; exact HA4.out)
  have CM := Lib.hid (CMY.out w5)
  clear hb5
  go_wp2_with (refine wpList_load_rowW (by simp [Region.wanted, yielded, Act.put]) 43 (.tmp 1) rfl w.heap.size rfl 43 whC (0, 0) _ HA5.out Try.underlying43 rfl HIW.out ?_)
  refine CM.out.mono ?_
  rintro e w6 ⟨rfl, hb6⟩
  have HB6 := Lib.hid (HB5.out.trans (hb6.mono HB5.out.size))
  have CF := Lib.hid (CFA.out w6)
  clear hb6
  go_wp2_with fail
  refine CF.out.mono ?_
  rintro e w7 ⟨p7, c7, rfl, -, -, hb7⟩
  have HB7 := Lib.hid (HB6.out.trans (hb7.mono HB6.out.size))
  have hfd := fieldA1 1 p7 1 c7
  clear hb7
  go_wp2_with fail
  go_ret
  exact ⟨rfl, HB7.out⟩
end Go.Proofs.Ytfadpiipigkocaa
namespace Go.Proofs.Ytfadpiipigkocaa
open Go.RowKit Go.Gz

def sd1 (m : Int) : List Sd := [⟨⟨ByteArray.empty, ByteArray.empty⟩, m, 1⟩]
/-- the notes that may be. -/
def okL : List NtL := [{ ntN with kd := 1, fr := 103, to_ := 5 }, { ntN with kd := 2, fr := 1, to_ := 100 }, { ntN with kd := 5, fr := 2, to_ := 0, tk := 7 }, { ntN with kd := 6, fr := 0, to_ := 2, ae := 1, sh := sd1 1 }, { ntN with kd := 4, fr := 0, to_ := 101, ae := 1, sh := sd1 5 }, { ntN with kd := 12, fr := 1, to_ := 0, sf := [120], ep := 268435455 }, { ntN with kd := 9, fr := 0, to_ := 1, ls := [([97], [])] }]
/-- those that may not. -/
def badL : List NtL := [ntN, { ntN with kd := 13, fr := 0, to_ := 1 }, { ntN with kd := 3, fr := 0, to_ := 0 }, { ntN with kd := 3, fr := 6, to_ := 0 }, { ntN with kd := 3, fr := 104, to_ := 0 }, { ntN with kd := 3, fr := 100, to_ := -1 }, { ntN with kd := 4, fr := 0, to_ := 100 }, { ntN with kd := 3, fr := 100, to_ := 0, tk := 1 }, { ntN with kd := 7, fr := 0, to_ := 1, ls := [([], [])] }, { ntN with kd := 5, fr := 1, to_ := 0, tk := 268435456 }, { ntN with kd := 10, fr := 1, to_ := 0, ep := -1 }, { ntN with kd := 1, fr := 100, to_ := 1, ask := { askZ with s := -1 } }, { ntN with kd := 1, fr := 100, to_ := 1, rep := { repZ with s := 1 } }]
theorem bare_yes {n : NtL} (h : n.ep = 0 ∧ n.tk = 0 ∧ n.ask = askZ ∧ (n.sf = [] ∧ n.st = []) ∧ n.rep = repZ ∧ (n.ls = [] ∧ n.la = []) ∧ (n.ae = 0 ∧ n.sh = [])) : bareB n = true := by
  unfold bareB
  exact @decide_eq_true _ (Classical.propDecidable _) h
theorem bare_no {n : NtL} (h : ¬ (n.ep = 0 ∧ n.tk = 0 ∧ n.ask = askZ ∧ (n.sf = [] ∧ n.st = []) ∧ n.rep = repZ ∧ (n.ls = [] ∧ n.la = []) ∧ (n.ae = 0 ∧ n.sh = []))) : bareB n = false := by
  unfold bareB
  exact @decide_eq_false _ (Classical.propDecidable _) h
theorem pack_yes {n : NtL} {Y : List UInt8} (h1 : partyB n.fr = true) (h2 : partyB n.to_ = true) (h3 : n.fr ≠ n.to_) (h4 : fitsB n = true) (h5 : layN n = some Y) : packN n = some Y := by
  unfold packN; rw [if_pos ⟨h1, h2, h3, h4⟩]; exact h5
theorem pack_no {n : NtL} (h : ¬ (partyB n.fr = true ∧ partyB n.to_ = true ∧ n.fr ≠ n.to_ ∧ fitsB n = true)) : packN n = none := by
  unfold packN; rw [if_neg h]
theorem pack_lno {n : NtL} (h : layN n = none) : packN n = none := by
  unfold packN; rw [h]; split <;> rfl
theorem may_one {m : Int} (h : 1 ≤ m ∧ m ≤ 5) : mayAB 5 1 (sd1 m) = true := (mayAB_iff _ _ _).2 (MayA.first h.1 h.2 (by decide))
theorem may_nil (e : Int) : mayAB 5 e [] = false := mayAB_no fun h => by have := h.ln.1; simp at this
set_option maxRecDepth 100000 in
theorem ok_pack : ∀ n ∈ okL, ∃ Y, packN n = some Y ∧ Y.length ≤ 1000000 := by
  intro n hn
  simp only [okL, List.mem_cons, List.not_mem_nil, or_false] at hn
  rcases hn with rfl | rfl | rfl | rfl | rfl | rfl | rfl
  · have h : ∃ Y, layN { ntN with kd := 1, fr := 103, to_ := 5 } = some Y ∧ Y.length ≤ 1000000 := ⟨_, rfl, by decide⟩
    obtain ⟨Y, h1, h2⟩ := h
    exact ⟨Y, pack_yes (by decide) (by decide) (by decide) (bare_yes ⟨rfl, rfl, rfl, ⟨rfl, rfl⟩, rfl, ⟨rfl, rfl⟩, rfl, rfl⟩) h1, h2⟩
  · have h : ∃ Y, layN { ntN with kd := 2, fr := 1, to_ := 100 } = some Y ∧ Y.length ≤ 1000000 := ⟨_, rfl, by decide⟩
    obtain ⟨Y, h1, h2⟩ := h
    exact ⟨Y, pack_yes (by decide) (by decide) (by decide) (bare_yes ⟨rfl, rfl, rfl, ⟨rfl, rfl⟩, rfl, ⟨rfl, rfl⟩, rfl, rfl⟩) h1, h2⟩
  · have h : ∃ Y, layN { ntN with kd := 5, fr := 2, to_ := 0, tk := 7 } = some Y ∧ Y.length ≤ 1000000 := ⟨_, rfl, by decide⟩
    obtain ⟨Y, h1, h2⟩ := h
    exact ⟨Y, pack_yes (by decide) (by decide) (by decide) (bare_yes ⟨rfl, rfl, rfl, ⟨rfl, rfl⟩, rfl, ⟨rfl, rfl⟩, rfl, rfl⟩) h1, h2⟩
  · have h : ∃ Y, layN { ntN with kd := 6, fr := 0, to_ := 2, ae := 1, sh := sd1 1 } = some Y ∧ Y.length ≤ 1000000 := ⟨_, rfl, by decide⟩
    obtain ⟨Y, h1, h2⟩ := h
    refine ⟨Y, pack_yes (by decide) (by decide) (by decide) ?_ h1, h2⟩
    show (mayAB 5 1 (sd1 1) && bareB _) = true
    rw [may_one (by decide), Bool.true_and]
    exact bare_yes ⟨rfl, rfl, rfl, ⟨rfl, rfl⟩, rfl, ⟨rfl, rfl⟩, rfl, rfl⟩
  · have h : ∃ Y, layN { ntN with kd := 4, fr := 0, to_ := 101, ae := 1, sh := sd1 5 } = some Y ∧ Y.length ≤ 1000000 := ⟨_, rfl, by decide⟩
    obtain ⟨Y, h1, h2⟩ := h
    refine ⟨Y, pack_yes (by decide) (by decide) (by decide) ?_ h1, h2⟩
    show (mayAB 5 1 (sd1 5) && bareB _) = true
    rw [may_one (by decide), Bool.true_and]
    exact bare_yes ⟨rfl, rfl, rfl, ⟨rfl, rfl⟩, rfl, ⟨rfl, rfl⟩, rfl, rfl⟩
  · have h : ∃ Y, layN { ntN with kd := 12, fr := 1, to_ := 0, sf := [120], ep := 268435455 } = some Y ∧ Y.length ≤ 1000000 := ⟨_, rfl, by decide⟩
    obtain ⟨Y, h1, h2⟩ := h
    exact ⟨Y, pack_yes (by decide) (by decide) (by decide) (bare_yes ⟨rfl, rfl, rfl, ⟨rfl, rfl⟩, rfl, ⟨rfl, rfl⟩, rfl, rfl⟩) h1, h2⟩
  · have h : ∃ Y, layN { ntN with kd := 9, fr := 0, to_ := 1, ls := [([97], [])] } = some Y ∧ Y.length ≤ 1000000 := ⟨_, rfl, by decide⟩
    obtain ⟨Y, h1, h2⟩ := h
    exact ⟨Y, pack_yes (by decide) (by decide) (by decide) (bare_yes ⟨rfl, rfl, rfl, ⟨rfl, rfl⟩, rfl, ⟨rfl, rfl⟩, rfl, rfl⟩) h1, h2⟩
theorem bad_pack : ∀ n ∈ badL, packN n = none := by
  intro n hn
  simp only [badL, List.mem_cons, List.not_mem_nil, or_false] at hn
  rcases hn with rfl | rfl | rfl | rfl | rfl | rfl | rfl | rfl | rfl | rfl | rfl | rfl | rfl
  · exact pack_no fun h => h.2.2.1 rfl
  · exact pack_no fun h => absurd (show (false : Bool) = true from h.2.2.2) (by decide)
  · exact pack_no fun h => h.2.2.1 rfl
  · exact pack_no fun h => absurd h.1 (by decide)
  · exact pack_no fun h => absurd h.1 (by decide)
  · exact pack_no fun h => absurd h.2.1 (by decide)
  · exact pack_no fun h => by
      have h := h.2.2.2
      rw [show fitsB { ntN with kd := 4, fr := 0, to_ := 100 } = (mayAB 5 0 [] && bareB _) from rfl, may_nil] at h
      cases h
  · exact pack_no fun h => by
      have h := h.2.2.2
      rw [show fitsB { ntN with kd := 3, fr := 100, to_ := 0, tk := 1 } = bareB _ from rfl, bare_no (fun h => absurd h.2.1 (by decide))] at h
      cases h
  · exact pack_no fun h => by
      have h := h.2.2.2
      rw [show fitsB { ntN with kd := 7, fr := 0, to_ := 1, ls := [([], [])] } = bareB { ntN with kd := 7, fr := 0, to_ := 1, ls := [([], [])] } from rfl, bare_no (fun h => by have := h.2.2.2.2.2.1.1; cases this)] at h
      cases h
  · exact pack_lno rfl
  · exact pack_lno rfl
  · exact pack_lno rfl
  · exact pack_no fun h => by
      have h := h.2.2.2
      rw [show fitsB { ntN with kd := 1, fr := 100, to_ := 1, rep := { repZ with s := 1 } } = bareB { ntN with kd := 1, fr := 100, to_ := 1, rep := { repZ with s := 1 } } from rfl, bare_no (fun h => by have := congrArg RepL.s h.2.2.2.2.1; exact absurd this (by decide))] at h
      cases h
theorem ok_sm : ∀ n ∈ okL, NtSm n ∧ n.la = [] ∧ n.rep.ls.length ≤ 300 ∧ n.ls.length ≤ 1000000 ∧ n.sh.length ≤ 1000000 := by
  intro n hn
  simp only [okL, List.mem_cons, List.not_mem_nil, or_false] at hn
  rcases hn with rfl | rfl | rfl | rfl | rfl | rfl | rfl
  all_goals exact ⟨⟨by decide, by decide, by decide, by decide, (fun e he => by cases he), by decide⟩, rfl, by decide, by decide, by decide⟩
theorem bad_sm : ∀ n ∈ badL, NtSm n := by
  intro n hn
  simp only [badL, List.mem_cons, List.not_mem_nil, or_false] at hn
  rcases hn with rfl | rfl | rfl | rfl | rfl | rfl | rfl | rfl | rfl | rfl | rfl | rfl | rfl
  all_goals exact ⟨by decide, by decide, by decide, by decide, (fun e he => by cases he), by decide⟩
end Go.Proofs.Ytfadpiipigkocaa
namespace Go.Proofs.Ytfadpiipigkocaa
open Go.RowKit Go.Gz

def szS (s : SP) : Nat := s.f.size + s.t.size
def szL (x : RecL) : Nat := x.1.length + x.2.length
theorem sumZ_app {α : Type} (sz : α → Nat) : ∀ (xs ys : List α), sumZ sz (xs ++ ys) = sumZ sz xs + sumZ sz ys
  | [], ys => (Nat.zero_add _).symm
  | x :: xs, ys => by
    have h := sumZ_app sz xs ys
    show sz x + sumZ sz (xs ++ ys) = sz x + sumZ sz xs + sumZ sz ys
    omega
theorem sumZ_succ {α : Type} [Inhabited α] (sz : α → Nat) (xs : List α) (i : Nat) (hi : i < xs.length) : sumZ sz (xs.take (i + 1)) = sumZ sz (xs.take i) + sz xs[i]! := by
  rw [List.take_succ_eq_append_getElem hi, sumZ_app, getElem!_pos xs i hi]
  rfl
theorem sumZ_succD {α : Type} (d : α) (sz : α → Nat) (xs : List α) (i : Nat) (hi : i < xs.length) : sumZ sz (xs.take (i + 1)) = sumZ sz (xs.take i) + sz (xs.getD i d) := by
  rw [List.take_succ_eq_append_getElem hi, sumZ_app]
  have e : xs.getD i d = xs[i] := by simp [List.getD, hi]
  rw [e]
  rfl
theorem wrap_two (S a b : Nat) : wrap64 (wrap64 (wrap64 (S : Int) + a) + b) = wrap64 ((S + (a + b) : Nat) : Int) := by unfold wrap64; omega
end Go.Proofs.Ytfadpiipigkocaa
namespace Go.Proofs.Ytfadpiipigkocaa
open Go.RowKit Go.Gz

def FewSP (ls : List SP) (w : World) (e : Ending) (w' : World) : Prop := ∃ b : Bool, e = .returned (.bool b) ∧ (b = true → ls.length ≤ 60 ∧ wrap64 (sumZ szS ls) ≤ 3000) ∧ Below w.heap.size w w'

set_option maxHeartbeats 1000000 in
theorem fewS_any (ls : List SP) (p : Option Addr) (c : Nat) (w : World) (hp : Spans w p ls) (hn : ls.length ≤ 9223372036854775807) :
    Calls Try.prog 30 #[.slice p ls.length c] w (FewSP ls w) := by
  have mx := mixedSp
  have HP := Lib.hid hp; clear hp
  have HF := Lib.hid (show ∀ b : Bool, ∀ w', (b = true → ls.length ≤ 60 ∧ wrap64 (sumZ szS ls) ≤ 3000) → Below w.heap.size w w' → FewSP ls w (.returned (.bool b)) w' from fun b w' h1 h2 => ⟨b, rfl, h1, h2⟩)
  obtain ⟨n, hln⟩ : ∃ n, ls.length = n := ⟨_, rfl⟩
  have HN := Lib.hid hln
  rw [hln] at hn HF ⊢
  clear hln
  go_enter Try.func30, Try.ntmps30
  go_wp2_with fail
  go_loopg [3, 4] n (fun gg s3 s4 wr => ∃ (i : Nat) (x : Int), i ≤ n ∧ n - i ≤ gg ∧ s3 = .int .i64 x ∧ s4 = .int .i64 i ∧ Hid (x = wrap64 (sumZ szS (ls.take i))) ∧ Hid (Below w.heap.size w wr))
  case atStart => exact ⟨0, 0, by omega, by omega, rfl, rfl, Lib.hid (show (0 : Int) = wrap64 ((0 : Nat) : Int) from by unfold wrap64; omega), Lib.hid (Below.refl _ _)⟩
  case round =>
    obtain ⟨i, x, hin, hg, rfl, rfl, HX, BW⟩ := hrel
    by_cases hlt : i < n
    · have hltz : (i : Int) < (n : Int) := by omega
      obtain ⟨b, o, rfl, hbl, c1, c2⟩ := span_cell HP.out BW.out (show i < ls.length by rw [HN.out]; exact hlt)
      obtain ⟨f, hf⟩ : ∃ f, ls[i]!.f = f := ⟨_, rfl⟩
      obtain ⟨t, ht⟩ : ∃ t, ls[i]!.t = t := ⟨_, rfl⟩
      have HSU := Lib.hid (show wrap64 (wrap64 (x + f.size) + t.size) = wrap64 (sumZ szS (ls.take (i + 1))) from by
        rw [HX.out, sumZ_succ szS ls i (by rw [HN.out]; exact hlt)]
        show _ = wrap64 ((sumZ szS (ls.take i) + (ls[i]!.f.size + ls[i]!.t.size) : Nat) : Int)
        rw [hf, ht]
        exact wrap_two _ _ _)
      rw [hf] at c1
      rw [ht] at c2
      clear hf ht
      go_wp2_with fail
      go_quiet (fail)
      go_wp2_with fail
      go_roundg (n - (i + 1))
      case measure => omega
      case rel => exact ⟨i + 1, _, by omega, by omega, rfl, by go_num, HSU, Lib.hid (below_drewN BW.out _)⟩
    · have hltz : ¬ (i : Int) < (n : Int) := by omega
      obtain rfl : i = n := by omega
      have HXE := Lib.hid (show x = wrap64 (sumZ szS ls) by
        have := HX.out
        rwa [List.take_of_length_le (by rw [HN.out]; exact Nat.le_refl _)] at this)
      by_cases h60 : i ≤ 60
      · have h60z : (i : Int) ≤ 60 := by omega
        have h60d : decide ((i : Int) ≤ 60) = true := decide_eq_true h60z
        obtain ⟨b, hb⟩ : ∃ b : Bool, decide (x ≤ 3000) = b := ⟨_, rfl⟩
        have HQ := Lib.hid (HF.out b _ (fun h => ⟨h60, by
          have := HXE.out
          subst h
          have := of_decide_eq_true hb
          omega⟩) BW.out)
        go_wp2_with fail
        go_ret
        exact HQ.out
      · have h60z : ¬ (i : Int) ≤ 60 := by omega
        have h60d : decide ((i : Int) ≤ 60) = false := decide_eq_false h60z
        go_wp2_with fail
        go_ret
        exact HF.out _ _ (fun h => by cases h) BW.out
end Go.Proofs.Ytfadpiipigkocaa
