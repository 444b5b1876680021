/-
  Layer weigh: a text gone through from its first rune on.
-/
import Derived.Test.YticjgmhgpeihjaaGreatDoorWeLen2
import Derived.Test.YticjgmhgpeihjaaGreatDoorLoLit
namespace Go.Proofs.YticjgmhgpeihjaaGreatDoor
open Go.RowKit Go.Gz Go.Sort

def WaRel (W0 : World) (row : List Int → Option WR) (f : Nat → Int) (cls : Int → Int) (la : Nat → Nat) (n b : Nat) (L0 : List Nat) (vo va : Value) (wr : World) (g : Nat) : Prop :=
  ∃ (xs : List EL) (I : List Nat) (nx : Nat → Nat) (a : Nat), va = .int .i64 (a : Int) ∧ I.length ≤ g ∧ AtL nx n a I ∧ Live (fun i => cls (f i)) la n I ∧ weighG f cls row L0 = xs ++ weighG f cls row I ∧ xs.length + 4 * I.length ≤ 4 * n ∧ Below W0.heap.size W0 wr ∧ b < wr.heap.size ∧ TX wr b n f cls nx la ∧ OwnE wr (b + 1) vo xs
/-- a row of elements of the call's own that a call returned. -/
def RetE (W : World) (xs : List EL) (e : Ending) (w' : World) : Prop := ∃ v, e = .returned v ∧ Below W.heap.size W w' ∧ OwnE w' W.heap.size v xs
structure WaFix (W0 : World) (rs : List WR) (row : List Int → Option WR) (f : Nat → Int) (cls : Int → Int) (la : Nat → Nat) (n b : Nat) : Prop where
  hrow : rowL rs = row
  rows : ∀ x ∈ rs, RowAt W0 x ∧ x.of.length ≤ 9223372036854775807
  to4 : ∀ x ∈ rs, x.to.length ≤ 4
  last : Lasts (fun i => cls (f i)) la n
  ord : Ord (fun i => cls (f i)) n
  nn : ∀ i, i < n → 0 ≤ cls (f i)
  val : ∀ i, i < n → 0 ≤ f i ∧ f i ≤ 1114111
  full : ∀ k : List Int, 3 < k.length → row k = none
  blk : W0.heap.size ≤ b
  few : n ≤ 200000
theorem els_impl {w : World} {g : Nat} {r : Int} {t : TypeId} {fr : Nat × Nat} (h : w.heap[g]? = some (.cells #[.int .i64 (64000 + r / 3999), .int .i64 32, .int .i64 2, .int .i64 (60001 + r % 3999), .int .i64 0, .int .i64 0] t fr)) : Els w (some ⟨g, 0, none⟩) (impl r) :=
  els_lit w g t fr (impl r) h
/-- the row that lengthen answers is one of the table's. -/
theorem lengthen_mem {rs : List WR} {f : Nat → Int} {cls : Int → Int} : ∀ (l : List Nat) (best : WR) (passed : Int), best ∈ rs → (lengthenG f cls (rowL rs) best passed l).1 ∈ rs
  | [], _, _, h => h
  | r :: t, best, passed, h => by
    rw [lengthenG]
    split
    · exact h
    · split
      · exact lengthen_mem t best passed h
      · split
        · rename_i x hx
          exact lengthen_mem t x passed (row_some hx).1
        · exact lengthen_mem t best _ h
theorem lengthen_sub {f : Nat → Int} {cls : Int → Int} {row : List Int → Option WR} : ∀ (l : List Nat) (best : WR) (passed : Int), (lengthenG f cls row best passed l).2.Sublist l
  | [], _, _ => List.Sublist.refl _
  | r :: t, best, passed => by
    rw [lengthenG]
    split
    · exact List.Sublist.refl _
    · split
      · exact List.Sublist.cons_cons _ (lengthen_sub t best passed)
      · split
        · exact List.Sublist.cons _ (lengthen_sub t _ passed)
        · exact List.Sublist.cons_cons _ (lengthen_sub t best _)
/-- what lengthen leaves is live. -/
theorem lengthen_live {f : Nat → Int} {cls : Int → Int} {row : List Int → Option WR} {la : Nat → Nat} {n : Nat} (hl : Lasts (fun i => cls (f i)) la n) (ho : Ord (fun i => cls (f i)) n) (hn : ∀ i, i < n → 0 ≤ cls (f i)) (x0 : WR) (L : List Nat) :
    ∀ (m : Nat) (P R : List Nat) (best : WR) (passed : Int), R.length ≤ m → LenInv f cls row la n x0 L best passed P R → Live (fun i => cls (f i)) la n (lengthenG f cls row x0 0 L).2 := by
  intro m
  induction m with
  | zero =>
    intro P R best passed hm h
    obtain rfl : R = [] := List.eq_nil_of_length_eq_zero (by omega)
    rw [h.eq]; exact h.live
  | succ m ih =>
    intro P R best passed hm h
    match R with
    | [] => rw [h.eq]; exact h.live
    | p :: R' =>
      by_cases hc : 0 < cls (f p)
      · cases hr : row (best.of ++ [f p]) with
        | some x => exact ih P R' x passed (by simpa using hm) (h.take hl ho hn hc hr)
        | none =>
          obtain ⟨Q, T, hQT, _, h'⟩ := h.jump hl ho hn hc hr
          exact ih _ T best _ (by rw [hQT] at hm; simp at hm; omega) h'
      · have hz : cls (f p) = 0 := by have := hn p (h.live.lt p (by simp)); omega
        rw [h.eq, lengthenG, if_pos hz]
        exact h.live
theorem longTo_last {nx : Nat → Nat} {n : Nat} {row : List Int → Option WR} {f : Nat → Int} {a : Nat} {t : List Nat} {k : Nat} {x : WR} (h : longTo f row (a :: t) 3 = some (k, x)) (hlk : Lk nx n a t) : Lk nx n ((a :: t).getD (k - 1) 0) ((a :: t).drop k) := by
  obtain ⟨h1, _, h3, _⟩ := longTo_some f row h
  obtain ⟨j, rfl⟩ : ∃ j, k = j + 1 := ⟨k - 1, by omega⟩
  rw [List.drop_succ_cons, Nat.add_sub_cancel]
  have hlast : ∀ (t : List Nat) (a j : Nat), j ≤ t.length → lastE a (t.take j) = (a :: t).getD j 0 := by
    intro t
    induction t with
    | nil =>
      intro a j hj
      obtain rfl : j = 0 := by simpa using hj
      rfl
    | cons y t ih =>
      intro a j hj
      cases j with
      | zero => rfl
      | succ j =>
        rw [List.take_succ_cons]
        show lastE y (t.take j) = _
        rw [ih y j (by simpa using hj)]
        simp [List.getD]
  have hsplit : t = t.take j ++ t.drop j := (List.take_append_drop j t).symm
  have h2 : Lk nx n a (t.take j ++ t.drop j) := hsplit ▸ hlk
  have := lk_append h2
  rwa [hlast t a j (by simpa using h3)] at this
theorem getD_drop {l : List Nat} {j : Nat} (h : j < l.length) : l.getD j 0 :: l.drop (j + 1) = l.drop j := by
  rw [List.drop_eq_getElem_cons h]; simp [List.getD, h]
theorem fieldR1 (p q : Option Addr) (n k m l : Nat) (w : World) : (Instr.field 47 (.agg #[.slice p n k, .slice q m l]) 1).run Tryz.prog w = .ok (.slice q m l) w := by kernel_rfl

set_option maxHeartbeats 4000000 in
set_option maxRecDepth 100000 in
theorem weighAll_any (W0 : World) (rs : List WR) (hr : RisingW rs) (p : Option Addr) (cap : Nat) (row : List Int → Option WR) (b n : Nat) (f : Nat → Int) (cls : Int → Int) (la : Nat → Nat) (W : World) (hl : Wrs W0 p rs) (hsz : rs.length < 1000000)
    (hf : WaFix W0 rs row f cls la n b) (hW : Below W0.heap.size W0 W) (ht : TX W b n f cls (fun i => i + 1) la) :
    Calls Tryz.prog 31 #[.slice p rs.length cap, .slice (some ⟨b, 0, none⟩) n n] W (RetE W0 (weighG f cls row (List.range n))) := by
  have HF := Lib.hid hf
  have HL := Lib.hid hl
  have HR := Lib.hid hr
  have HW := Lib.hid hW
  have HT := Lib.hid ht
  clear hf hl hr hW ht
  obtain ⟨res, hres⟩ : ∃ res, weighG f cls row (List.range n) = res := ⟨_, rfl⟩
  rw [hres]
  have HRES := Lib.hid hres; clear hres
  have hfew := HF.out.few
  go_enter Tryz.func31, Tryz.ntmps31
  go_wp2_with fail
  go_loopg [5, 6] n (fun g vo va wr => Hid (WaRel W0 row f cls la n b (List.range n) vo va wr g))
  case atStart => exact Lib.hid ⟨[], List.range n, fun i => i + 1, 0, rfl, by simp, at_range n, live_range _ HF.out.last, rfl, by simp, HW.out, HT.out.lt, HT.out, OwnE.nil _ _⟩
  case round =>
    have hrel' := hrel.out
    clear hrel
    obtain ⟨xs, I, nx, a, rfl, hg, hat, hlive, heq, hlen, hb, hbl, htx, hown⟩ := hrel'
    have hat0 := Lib.hid hat
    have hB0 := hb.size
    have hblk := HF.out.blk
    rcases atL_lt hat (fun j hj => hlive.lt j hj) with ⟨rfl, rfl⟩ | ⟨t, rfl, han, hlk⟩
    · have haz : ¬ (a : Int) < (a : Int) := by omega
      have HO := Lib.hid hown
      have HB := Lib.hid hb
      have HE := Lib.hid heq
      clear hown hb heq hat hlive htx
      go_wp2_with fail
      go_ret
      refine ⟨_, rfl, HB.out, ?_⟩
      have he : res = xs := by rw [← HRES.out, HE.out, weigh_nil, List.append_nil]
      rw [he]
      exact HO.out.lower (by omega)
    · have haz : (a : Int) < (n : Int) := by omega
      have hl1 := Lib.hid (longest_any rs HR.out p cap b n a f cls nx la (a :: t) wr (HL.out.below hb) hsz (fun x hx => (HF.out.rows x hx).2) htx hat (fun i hi => hlive.lt i hi) (by omega))
      rw [HF.out.hrow] at hl1
      have HO := Lib.hid hown
      have HB := Lib.hid hb
      have HE := Lib.hid heq
      have HTX := Lib.hid htx
      have HLV := Lib.hid hlive
      have HLK := Lib.hid hlk
      clear hown hb heq hat hlive htx hlk
      cases hq : longTo f row (a :: t) 3 with
      | none =>
        rw [hq, show lgR none = WR.zero from rfl, show lgE a (a :: t) none = a from rfl] at hl1
        have HQ := Lib.hid hq; clear hq
        have hva := HF.out.val a han
        obtain ⟨r, hfr⟩ : ∃ r, f a = r := ⟨_, rfl⟩
        rw [hfr] at hva
        have him := Lib.hid (fun w => impl_any r hva.1 hva.2 w)
        go_wp2_with fail
        refine hl1.out.mono ?_
        rintro e w1 ⟨rfl, hb1⟩
        have hs1 := hb1.size
        have HB1 := Lib.hid (hb1.alloc hs1 (.cells #[.slice WR.zero.op WR.zero.of.length WR.zero.oc, .slice WR.zero.tp WR.zero.to.length WR.zero.tc] 47))
        have t0 := cell_below HB1.out (HTX.out.cr a han) hbl
        rw [hfr] at t0
        have HFR := Lib.hid hfr
        clear hb1 hl1 hfr
        go_wp2_with fail
        refine (him.out _).mono ?_
        rintro e w2 ⟨rfl, hb2⟩
        have HB2 := Lib.hid (HB1.out.trans (hb2.mono HB1.out.size))
        clear t0 hb2 him
        have hs2 := HB2.out.size
        have HB3 := Lib.hid (HB2.out.alloc hs2 (.cells #[.int .i64 (64000 + r / 3999), .int .i64 32, .int .i64 2, .int .i64 (60001 + r % 3999), .int .i64 0, .int .i64 0] 84))
        have hels := Lib.hid (show Els (w2.alloc (.cells #[.int .i64 (64000 + r / 3999), .int .i64 32, .int .i64 2, .int .i64 (60001 + r % 3999), .int .i64 0, .int .i64 0] 84)) (some ⟨w2.heap.size, 0, none⟩) (impl r) from els_impl (heap_new _ _))
        have HO3 := Lib.hid (HO.out.below HB3.out)
        have HT3 := Lib.hid (HTX.out.below HB3.out)
        have hs3 := HB3.out.size
        simp only [World.size_alloc] at hs3
        clear hva
        go_wp2_with (at_builtin; refine wpList_ownE_row rfl _ _ rfl (b + 1) _ xs rfl HO3.out (some ⟨w2.heap.size, 0, none⟩) 2 (impl r) rfl hels.out ?nocap ?lenOk ?below ?_)
        case nocap => exact fun h => by cases h
        case lenOk => have : (impl r).length = 2 := rfl; simp only [List.length_cons] at hlen; omega
        case below => simp only [World.size_alloc]; omega
        intro v4 w4 hown4 hgrow4
        have hb4 := (Below.refl (b + 1) (w2.alloc (.cells #[.int .i64 (64000 + r / 3999), .int .i64 32, .int .i64 2, .int .i64 (60001 + r % 3999), .int .i64 0, .int .i64 0] 84))).grown hgrow4 (by simp only [World.size_alloc]; omega) (fun g hg => HO3.out.lt g hg)
        have HW4 := Lib.hid ((HB.out.trans (HB3.out.mono hB0)).trans (hb4.mono (by omega)))
        have HT4 := Lib.hid (HT3.out.kept hb4 (Nat.lt_succ_self b))
        have HO4 := Lib.hid hown4
        clear hown4 hgrow4 hb4
        have t4 := HT4.out.cn a han
        have hg' : t.length + 1 ≤ gk := by simpa using hg
        have hlen2 : xs.length + 4 * (t.length + 1) ≤ 4 * n := by simpa using hlen
        go_wp2_with fail
        go_roundg t.length
        case measure => omega
        case rel => exact Lib.hid ⟨xs ++ impl r, t, nx, nx a, rfl, Nat.le_refl _, lk_at HLK.out, live_back (P := [a]) HLV.out, by rw [HE.out, weigh_none f cls row HQ.out, HFR.out, List.append_assoc], by have : (impl r).length = 2 := rfl; rw [List.length_append]; omega, HW4.out, HT4.out.lt, HT4.out, HO4.out⟩
      | some kx =>
        obtain ⟨k, x⟩ := kx
        rw [hq, show lgR (some (k, x)) = x from rfl, show lgE a (a :: t) (some (k, x)) = (a :: t).getD (k - 1) 0 from rfl] at hl1
        obtain ⟨hk1, _, hk3, hkrow⟩ := longTo_some f row hq
        obtain ⟨j, rfl⟩ : ∃ j, k = j + 1 := ⟨k - 1, by omega⟩
        rw [Nat.add_sub_cancel] at hl1
        have hek := longTo_last hq HLK.out
        rw [Nat.add_sub_cancel] at hek
        have hej := getD_drop (l := a :: t) (j := j) (by omega)
        have hdl : ((a :: t).drop (j + 1)).length = t.length - j := by simp
        have hlvL : Live (fun i => cls (f i)) la n ((a :: t).drop (j + 1)) := live_back (P := (a :: t).take (j + 1)) (by rw [List.take_append_drop]; exact HLV.out)
        have hsrtE : ((a :: t).getD j 0 :: (a :: t).drop (j + 1)).Pairwise (· < ·) := by rw [hej]; exact HLV.out.srt.sublist (List.drop_sublist _ _)
        have hen : (a :: t).getD j 0 < n := HLV.out.lt _ (List.mem_of_mem_drop (i := j) (by rw [← hej]; simp))
        have hws := weigh_some f cls row hq
        have hxr : x ∈ rs := (row_some (HF.out.hrow.symm ▸ hkrow)).1
        have HXR := Lib.hid (HF.out.rows x hxr)
        obtain ⟨en, hen0⟩ : ∃ en, (a :: t).getD j 0 = en := ⟨_, rfl⟩
        obtain ⟨L, hL0⟩ : ∃ L, (a :: t).drop (j + 1) = L := ⟨_, rfl⟩
        rw [hen0] at hl1 hek hsrtE hen
        rw [hL0] at hek hsrtE hdl hlvL hws
        have hmem : (lengthenG f cls row x 0 L).1 ∈ rs := by rw [← HF.out.hrow]; exact lengthen_mem L x 0 hxr
        have hlive' := lengthen_live (row := row) HF.out.last HF.out.ord HF.out.nn x L L.length [] L x 0 (Nat.le_refl _) (LenInv.start HF.out.nn hlvL)
        have hlen' := lengthen_le f cls row L x 0
        have hln := Lib.hid (fun w hb htx => lengthen_any W0 rs HR.out p cap row b n en f cls nx la x L w (HL.out) hsz ⟨HF.out.hrow, HF.out.rows, HF.out.last, HF.out.ord, HF.out.nn, HF.out.full, HF.out.blk, hen, by omega⟩ hb HXR.out htx hek hlvL hsrtE)
        obtain ⟨y, hy⟩ : ∃ y, (lengthenG f cls row x 0 L).1 = y := ⟨_, rfl⟩
        obtain ⟨L', hL'⟩ : ∃ L', (lengthenG f cls row x 0 L).2 = L' := ⟨_, rfl⟩
        rw [hy, hL'] at hln hws
        rw [hy] at hmem
        rw [hL'] at hlive' hlen'
        have HWS := Lib.hid hws
        have HLV' := Lib.hid hlive'
        have HYR := Lib.hid (HF.out.rows y hmem).1
        have hy4 := HF.out.to4 y hmem
        have hgt : L'.length ≤ t.length := by omega
        have hg' : t.length + 1 ≤ gk := by simpa using hg
        have hlen2 : xs.length + 4 * (t.length + 1) ≤ 4 * n := by simpa using hlen
        clear hdl hlen'
        clear hws hlive' hmem hy hL' hen0 hL0 hek hsrtE hlvL hej hkrow hxr hq hk1 hk3
        go_wp2_with fail
        refine hl1.out.mono ?_
        rintro e w1 ⟨rfl, hb1⟩
        have hs1 := hb1.size
        have HB1 := Lib.hid (hb1.alloc hs1 (.cells #[.slice x.op x.of.length x.oc, .slice x.tp x.to.length x.tc] 47))
        have HT1 := Lib.hid (HTX.out.below HB1.out)
        have HO1 := Lib.hid (HO.out.below HB1.out)
        have HW1 := Lib.hid (HB.out.trans (HB1.out.mono hB0))
        have hln' := Lib.hid (hln.out _ HW1.out HT1.out)
        clear hb1 hl1 hln
        have hs1' := HB1.out.size
        go_wp2_with fail
        refine hln'.out.mono ?_
        rintro e w2 ⟨rfl, hg2, nx', htx2, hlk2⟩
        have HW2 := Lib.hid (HW1.out.trans (but_below hg2 hblk HW1.out.size))
        have HO2 := Lib.hid (HO1.out.but hg2 (Nat.lt_succ_self b))
        have HT2 := Lib.hid htx2
        have HK2 := Lib.hid hlk2
        have hs2 := hg2.size
        have hfd := fun w : World => fieldR1 y.op y.tp y.of.length y.oc y.to.length y.tc w
        clear hg2 htx2 hlk2 hln'
        have HYE := Lib.hid (HYR.out.below HW2.out).2
        have hbl2 := HT2.out.lt
        go_wp2_with (at_builtin; refine wpList_ownE_row rfl _ _ rfl (b + 1) _ xs rfl HO2.out y.tp y.tc y.to rfl HYE.out.1 HYE.out.2.2 ?lenOk ?below ?_)
        case lenOk => omega
        case below => omega
        intro v4 w4 hown4 hgrow4
        have hb4 := (Below.refl (b + 1) w2).grown hgrow4 (by omega) (fun g hg => HO2.out.lt g hg)
        have HW4 := Lib.hid (HW2.out.trans (hb4.mono (by omega)))
        have HT4 := Lib.hid (HT2.out.kept hb4 (Nat.lt_succ_self b))
        have HO4 := Lib.hid hown4
        clear hown4 hgrow4 hb4 hfd
        have t4 := HT4.out.cn en hen
        have henz : (en : Int) < (n : Int) := by omega
        go_wp2_with fail
        go_roundg L'.length
        case measure => omega
        case rel => exact Lib.hid ⟨xs ++ y.to, L', nx', nx' en, rfl, Nat.le_refl _, lk_at HK2.out, HLV'.out, by rw [HE.out, HWS.out, List.append_assoc], by rw [List.length_append]; omega, HW4.out, HT4.out.lt, HT4.out, HO4.out⟩
end Go.Proofs.YticjgmhgpeihjaaGreatDoor
