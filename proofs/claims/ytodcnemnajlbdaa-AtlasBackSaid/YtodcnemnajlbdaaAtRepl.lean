/-
  Layer atlas: slices.Clone and slices.Replace at shards.
-/
import Derived.Test.YtodcnemnajlbdaaAtList
import Derived.Test.YtodcnemnajlbdaaStSplice
import Derived.Lib.Overlaps
import Derived.Deep.RegionLaw
namespace Go.Proofs.Ytodcnemnajlbdaa
open Go.RowKit Go.Gz

theorem empty_k {α : Type} (K : SK α) (w : World) (B : Nat) (t : TypeId) (hB : B ≤ w.heap.size) : OwnK K (w.alloc (.cells #[] t)) B t (.slice (some ⟨w.heap.size, 0, none⟩) 0 0) [] :=
  World.ownsRow_made w #[] 0 hB (by unfold maxLen; omega) (by simp)

set_option maxHeartbeats 1000000 in
theorem clone_sd (l : List Sd) (hl : l.length ≤ 900000) (p : Option Addr) (cap : Nat) (w : World) (hp : RowK KS w p l) (hpc : p = none → cap = 0) :
    Calls Try.prog 30 #[.slice p l.length cap] w (RetK KS w 40 l) := by
  have HF := Lib.hid (show ∀ v w', OwnK KS w' w.heap.size 40 v l → Below w.heap.size w w' → RetK KS w 40 l (.returned v) w' from fun v w' h1 h2 => ⟨v, rfl, h1, h2⟩)
  have HP := Lib.hid hp
  have HPC := Lib.hid hpc
  cases p with
  | none =>
    obtain rfl := hp.nil_of
    obtain rfl := hpc rfl
    clear hp hpc
    have he := fun w : World => Lib.run_eql_slice_nil (P := Try.prog) w 24 40 none 0 0 0 0 Try.underlying24
    go_enter Try.func30, Try.ntmps30
    go_wp2_with fail
    go_ret
    exact HF.out _ _ (OwnK.nil KS _ _ _) (Below.refl _ _)
  | some a =>
    clear hp hpc
    have hlz := Lib.hid hl
    have he := fun w : World => Lib.run_eql_slice_nil (P := Try.prog) w 24 40 (some a) l.length cap 0 0 Try.underlying24
    obtain ⟨n, hn⟩ : ∃ n, l.length = n := ⟨_, rfl⟩
    rw [hn] at he ⊢
    have HN := Lib.hid hn
    clear hn hl
    go_enter Try.func30, Try.ntmps30
    go_wp2_with (at_builtin; refine wpList_app_k skt_atlas rfl _ _ rfl rfl (empty_k KS _ w.heap.size _ (Nat.le_refl _)) (some a) cap l (by rw [HN.out]; rfl) (HP.out.below ((Below.refl _ _).alloc (Nat.le_refl _) _)) HPC.out (by have := hlz.out; simp; omega) (by simp) ?_)
    intro v1 w1 hown1 hgrow _
    have HB1 := Lib.hid (((Below.refl w.heap.size w).alloc (Nat.le_refl _) (.cells #[] 40)).grown hgrow (by simp) (fun g hg => by simp [Value.ownBlock] at hg; omega))
    have HO1 := Lib.hid hown1
    clear hown1 hgrow
    go_wp2_with fail
    go_ret
    exact HF.out _ _ HO1.out HB1.out

theorem one_zero : ∀ i, i < zeroSd.cells.size → (zeroSd.cells[i]!).oneCell' = true := fun i hi => by
  have hi : i < 4 := hi
  obtain rfl | rfl | rfl | rfl : i = 0 ∨ i = 1 ∨ i = 2 ∨ i = 3 := by omega
  all_goals rfl
/-- what Replace answers: shards i to j - 1 of L are V; what was there stays, but for L's own block. -/
def RetRp (w : World) (B g : Nat) (L V : List Sd) (i j : Nat) (e : Ending) (w' : World) : Prop := ∃ v, e = .returned v ∧ OwnK KS w' B 40 v (L.take i ++ V ++ L.drop j) ∧ KeptF (fun b => b = g) w w'
/-- what is known ahead: s in its block, v in another one. -/
structure RpI (w : World) (B g c : Nat) (X : List Value) (L V : List Sd) (gv ov : Nat) : Prop where
  hB : B ≤ g
  hg : w.heap[g]? = some (.cells X.toArray 40 (0, 0))
  hc : L.length ≤ c
  hm : c ≤ 9223372036854775807
  hX : X.length = c * 4
  ht : X.take (L.length * 4) = KS.flat L
  hv : RowK KS w (some ⟨gv, ov, none⟩) V
  hne : gv ≠ g
  hl : L.length ≤ 100000
  hk : 0 < V.length ∧ V.length ≤ 100
  hgv : ∃ cv e fz, w.heap[gv]? = some (.cells cv e fz) ∧ cv.size ≠ 0
theorem RpI.src {w : World} {B g c : Nat} {X : List Value} {L V : List Sd} {gv ov : Nat} (h : RpI w B g c X L V gv ov) (j : Nat) : ∀ q v, (KS.flat (L.drop j))[q]? = some v → X[j * 4 + q]? = some v := fun q v hv => by
  rw [KS.flat_drop, ← h.ht] at hv
  rw [List.getElem?_drop] at hv
  have hl := (List.getElem?_eq_some_iff.1 hv).1
  rw [List.length_take] at hl
  rw [List.getElem?_take, if_pos (by show _ < _; have : j * KS.n = j * 4 := rfl; omega)] at hv
  exact hv
theorem RpI.head {w : World} {B g c : Nat} {X : List Value} {L V : List Sd} {gv ov : Nat} (h : RpI w B g c X L V gv ov) (i : Nat) (hi : i ≤ L.length) : X.take (i * 4) = KS.flat (L.take i) := by
  rw [KS.flat_take, ← h.ht, List.take_take, Nat.min_eq_left (by show i * 4 ≤ _; omega)]
  rfl
theorem RpI.vsrc {w : World} {B g c : Nat} {X : List Value} {L V : List Sd} {gv ov : Nat} (h : RpI w B g c X L V gv ov) : ∀ w', KeptF (fun b => b = g) w w' → ∀ q v, (KS.flat V)[q]? = some v → w'.cell? ((⟨gv, ov, none⟩ : Addr).add q) = some v := fun w' hw q v hv => (h.hv.kept hw (fun a ha => by injection ha with ha; rw [← ha]; exact h.hne)).flat q v hv
theorem flat_new {L V : List Sd} {i j : Nat} : KS.flat (L.take i ++ V ++ L.drop j) = KS.flat (L.take i) ++ KS.flat V ++ KS.flat (L.drop j) := by rw [KS.flat_app, KS.flat_app]

set_option maxHeartbeats 4000000 in
set_option maxRecDepth 100000 in
/-- the end of L is replaced; no less than before. -/
theorem repl_end (w : World) (B g c : Nat) (X : List Value) (L V : List Sd) (gv ov cv i : Nat) (h : RpI w B g c X L V gv ov) (hB : B ≤ w.heap.size) (hi : i < L.length) (hk : L.length ≤ i + V.length) :
    Calls Try.prog 33 #[.slice (some ⟨g, 0, none⟩) L.length c, .int .i64 (i : Int), .int .i64 (L.length : Int), .slice (some ⟨gv, ov, none⟩) V.length cv] w (RetRp w B g L V i L.length) := by
  have hown : OwnK KS w B 40 (.slice (some ⟨g, 0, none⟩) L.length c) L := OwnK.of_buf h.hB h.hg h.hc (by have := h.hm; unfold maxLen; omega) h.hX h.ht
  have HC := Lib.hid (hown.cut i (by omega))
  have HV := Lib.hid h.hv
  have HLT := Lib.hid (show (L.take i).length = i by rw [List.length_take]; omega)
  have HF := Lib.hid (show ∀ v w', OwnK KS w' B 40 v (L.take i ++ V) → KeptF (fun b => b = g) w w' → RetRp w B g L V i L.length (.returned v) w' from fun v w' h1 h2 => ⟨v, rfl, by rw [List.drop_length, List.append_nil]; exact h1, h2⟩)
  have HH := Lib.hid h
  obtain ⟨n, hn⟩ : ∃ n, L.length = n := ⟨_, rfl⟩
  obtain ⟨k, hkk⟩ : ∃ k, V.length = k := ⟨_, rfl⟩
  have HN := Lib.hid hn
  have HK := Lib.hid hkk
  have hc := h.hc
  have hm := h.hm
  have hl := h.hl
  have hk0 := h.hk
  rw [hn] at hi hk hc hl HF ⊢
  rw [hkk] at hk hk0 ⊢
  have HB := Lib.hid hB
  clear h hown hn hkk hB
  have a1 : ¬ (i : Int) = (n : Int) := by omega
  have a2 : (i : Int) ≤ (n : Int) := by omega
  have a3 : (n : Int) ≤ (c : Int) := by omega
  have a4 : (i : Int) ≤ (c : Int) := by omega
  have a5 : ¬ c = i := by omega
  have a6 : (0 : Int) ≤ (i : Int) := by omega
  have a7 : i ≤ n := by omega
  go_enter Try.func33, Try.ntmps33
  go_wp2_with (at_builtin; refine wpList_app_k skt_atlas rfl _ _ rfl rfl HC.out (some ⟨gv, ov, none⟩) cv V (by rw [HK.out]; rfl) HV.out (fun h => by cases h) (by have := HLT.out; have := HK.out; omega) HB.out ?_)
  intro v1 w1 hown1 hgrow1 _
  have HO1 := Lib.hid hown1
  have HK1 := Lib.hid (show KeptF (fun b => b = g) w w1 from KeptF.grown hgrow1 (fun b hb => by simp [Value.ownBlock] at hb; exact hb.symm))
  obtain ⟨q, c1, hv1, _⟩ := hown1.row
  rw [List.length_append, HLT.out, HK.out] at hv1
  subst hv1
  clear hown1 hgrow1
  have b1 : ¬ ((i : Int) + (k : Int) < (n : Int)) := by omega
  go_wp2_with fail
  go_ret
  exact HF.out _ _ HO1.out HK1.out

set_option maxHeartbeats 8000000 in
set_option maxRecDepth 100000 in
/-- in the midst, and it fits in. -/
theorem repl_fit (w : World) (B g c : Nat) (X : List Value) (L V : List Sd) (gv ov cv i j : Nat) (h : RpI w B g c X L V gv ov) (hij : i < j) (hjn : j < L.length) (hk : i + V.length ≤ j) :
    Calls Try.prog 33 #[.slice (some ⟨g, 0, none⟩) L.length c, .int .i64 (i : Int), .int .i64 (j : Int), .slice (some ⟨gv, ov, none⟩) V.length cv] w (RetRp w B g L V i j) := by
  have HH := Lib.hid h
  have HVS := Lib.hid h.vsrc
  have HFV := Lib.hid (show (KS.flat V).length = V.length * 4 from KS.flat_len V)
  have HFD := Lib.hid (show (KS.flat (L.drop j)).length = (L.length - j) * 4 by rw [KS.flat_len, List.length_drop]; rfl)
  have HSD := Lib.hid (h.src j)
  have HHD := Lib.hid (h.head i (by omega))
  have HF := Lib.hid (show ∀ g' c' Y w', B ≤ g' → w'.heap[g']? = some (.cells (List.toArray Y) 40 (0, 0)) → i + V.length + (L.length - j) ≤ c' → c' ≤ maxLen → Y.length = c' * 4 → Y.take ((i + V.length + (L.length - j)) * 4) = KS.flat (L.take i) ++ KS.flat V ++ KS.flat (L.drop j) → KeptF (fun b => b = g) w w' → RetRp w B g L V i j (.returned (.slice (some ⟨g', 0, none⟩) (i + V.length + (L.length - j)) c')) w' from fun g' c' Y w' h1 h2 h3 h4 h5 h6 h7 => by
    have e : (L.take i ++ V ++ L.drop j).length = i + V.length + (L.length - j) := by simp only [List.length_append, List.length_take, List.length_drop]; omega
    exact ⟨_, rfl, by rw [← e]; exact OwnK.of_buf h1 h2 (by rw [e]; exact h3) h4 h5 (by rw [e, flat_new]; exact h6), h7⟩)
  obtain ⟨n, hn⟩ : ∃ n, L.length = n := ⟨_, rfl⟩
  obtain ⟨k, hkk⟩ : ∃ k, V.length = k := ⟨_, rfl⟩
  obtain ⟨d, hd⟩ : ∃ d, n - j = d := ⟨_, rfl⟩
  have hc := h.hc
  have hm := h.hm
  have hl := h.hl
  have hk0 := h.hk
  have hX := h.hX
  have HG := Lib.hid h.hg
  have HBg := Lib.hid h.hB
  rw [hn] at hjn hc hl HF HFD ⊢
  rw [hkk] at hk hk0 HF HFV ⊢
  rw [hd] at HF HFD
  have HXL := Lib.hid hX
  clear h hn hkk hX
  have a0 : (k : Int) ≤ 100 := by omega
  have a1 : ¬ (i : Int) = (j : Int) := by omega
  have a2 : (i : Int) ≤ (j : Int) := by omega
  have a3 : (j : Int) ≤ (c : Int) := by omega
  have a4 : (i : Int) ≤ (c : Int) := by omega
  have a5 : ¬ c = i := by omega
  have a6 : (0 : Int) ≤ (i : Int) := by omega
  have a7 : i ≤ j := by omega
  have a8 : (0 : Int) ≤ (j : Int) := by omega
  have a9 : ¬ (j : Int) = (n : Int) := by omega
  have a10 : (j : Int) ≤ (n : Int) := by omega
  have a11 : ¬ c = j := by omega
  have hw1 : IntKind.i64.wrap ((i : Int) + (k : Int)) = (i : Int) + (k : Int) := by rw [IntKind.wrap_i64]; omega
  have hw2 : IntKind.i64.wrap ((i : Int) + (k : Int) + (d : Int)) = (i : Int) + (k : Int) + (d : Int) := by rw [IntKind.wrap_i64]; omega
  have ht1 : ((i : Int) + (k : Int)).toNat = i + k := by omega
  have ht2 : ((i : Int) + (k : Int) + (d : Int)).toNat = i + k + d := by omega
  have b1 : ¬ (c : Int) < (i : Int) + (k : Int) + (d : Int) := by omega
  have b2 : (i : Int) + (k : Int) ≤ (j : Int) := by omega
  have b3 : (i : Int) + (k : Int) + (d : Int) ≤ (c : Int) := by omega
  have b4 : (i : Int) + (k : Int) ≤ (i : Int) + (k : Int) + (d : Int) := by omega
  have b5 : (i : Int) ≤ (i : Int) + (k : Int) + (d : Int) := by omega
  have b6 : (i : Int) + (k : Int) + (d : Int) ≤ (n : Int) := by omega
  have b7 : (0 : Int) ≤ (i : Int) + (k : Int) + (d : Int) := by omega
  have b8 : (0 : Int) ≤ (i : Int) + (k : Int) := by omega
  have b9 : ¬ c = i + k := by omega
  go_enter Try.func33, Try.ntmps33
  go_wp2_with fail
  go_quiet (fail)
  go_wp2_with (refine wpList_copy_k skt_atlas rfl _ _ rfl g _ _ _ _ _ _ rfl rfl X _ HG.out (KS.flat V) k (by simp only [Nat.min_def]; split <;> omega) HFV.out (HVS.out _ ((KeptF.refl _ _).drewN _)) (by rw [HFV.out, HXL.out]; omega) (KS.flat_one V) ?_)
  intro w1 HG1 HK1
  obtain ⟨Y1, hY1⟩ : ∃ Y1, splice X (i * 4) (KS.flat V) = Y1 := ⟨_, rfl⟩
  rw [hY1] at HG1
  have HY1 := Lib.hid hY1
  have HL1 := Lib.hid (show Y1.length = c * 4 by rw [← hY1, length_splice _ _ _ (by rw [HFV.out, HXL.out]; omega), HXL.out])
  have HS1 := Lib.hid (show ∀ q v, (KS.flat (L.drop j))[q]? = some v → Y1[j * 4 + q]? = some v from fun q v hv => by rw [← hY1, splice_get (by rw [HFV.out]; omega) (by rw [HXL.out]; omega)]; exact HSD.out q v hv)
  clear hY1
  go_upto_region 18 with fail
  go_region_law (refine step_copy_k skt_atlas rfl _ _ rfl g ((i + k) * 4) d (c - (i + k)) ⟨g, j * 4, none⟩ d (c - j) (by simp [Act.eval, Act.put]) (by simp [Act.eval, Act.put]) Y1 _ HG1.out (KS.flat (L.drop j)) d (by simp) HFD.out (fun q v hv => (cell_src HG1.out).trans (HS1.out q v hv)) (by rw [HFD.out, HL1.out]; omega) (KS.flat_one _) ?_; intro w2 HG2 HK2)
  obtain ⟨Y2, hY2⟩ : ∃ Y2, splice Y1 ((i + k) * 4) (KS.flat (L.drop j)) = Y2 := ⟨_, rfl⟩
  rw [hY2] at HG2
  have HL2 := Lib.hid (show Y2.length = c * 4 by rw [← hY2, length_splice _ _ _ (by rw [HFD.out, HL1.out]; omega), HL1.out])
  have HT2 := Lib.hid (show Y2.take ((i + k + d) * 4) = KS.flat (L.take i) ++ KS.flat V ++ KS.flat (L.drop j) by
    have := fit_take (X := X) (a := i * 4) HFV.out HFD.out (by rw [HXL.out]; omega)
    rw [← Nat.add_mul, ← Nat.add_mul, HY1.out, hY2, HHD.out] at this
    exact this)
  clear hY2
  have HFit := Lib.hid (show (i + k + d) * 4 + (n - (i + k + d)) * KS.n ≤ Y2.length by rw [HL2.out]; show _ + _ * 4 ≤ _; omega)
  have HFit0 := Lib.hid (show (i + k + d) * 4 + 0 * KS.n ≤ Y2.length by rw [HL2.out]; omega)
  by_cases hce : c = i + k + d
  · subst hce
    go_wp2_with (refine wpList_clear_k skt_atlas one_zero rfl _ rfl g ((i + k + d) * 4) 0 _ (some ⟨g, 0, none⟩) rfl Y2 _ HG2.out (fun hm => absurd hm (by omega)) HFit0.out ?_)
    intro w3 Z HZ HG3 HK3
    go_wp2_with fail
    go_ret
    exact HF.out g _ _ w3 HBg.out HG3.out (by omega) (by unfold maxLen; omega) (by rw [length_splice _ _ _ (by rw [HZ.out]; exact HFit0.out), HL2.out]) (by rw [splice_take (Nat.le_refl _) (by rw [HL2.out]; omega)]; exact HT2.out) ((HK1.out.undrewN.trans HK2.out.undrew fun _ _ e => e).trans HK3.out fun _ _ e => e)
  · go_wp2_with (refine wpList_clear_k skt_atlas one_zero rfl _ rfl g ((i + k + d) * 4) (n - (i + k + d)) _ (some ⟨g, (i + k + d) * 4, none⟩) rfl Y2 _ HG2.out (fun _ => rfl) HFit.out ?_)
    intro w3 Z HZ HG3 HK3
    go_wp2_with fail
    go_ret
    exact HF.out g c _ w3 HBg.out HG3.out (by omega) (by unfold maxLen; omega) (by rw [length_splice _ _ _ (by rw [HZ.out]; exact HFit.out), HL2.out]) (by rw [splice_take (Nat.le_refl _) (by rw [HL2.out]; omega)]; exact HT2.out) ((HK1.out.undrewN.trans HK2.out.undrew fun _ _ e => e).trans HK3.out fun _ _ e => e)

theorem ovl_no (w : World) (g c n m : Nat) (X : List Value) (hg : w.heap[g]? = some (.cells X.toArray 40 (0, 0))) (gv ov : Nat) (hne : gv ≠ g) (hgv : ∃ cv e fz, w.heap[gv]? = some (.cells cv e fz) ∧ cv.size ≠ 0) (o lb cb : Nat) :
    (callFunc 42 #[.slice (some ⟨g, o, none⟩) n c, .slice (some ⟨gv, ov, none⟩) lb cb]).run Try.prog (w.drewN m) = .ok (.value (.bool false)) (w.drewN m) := by
  obtain ⟨cv, e, fz, h1, h2⟩ := hgv
  have hsz : ∀ w, (Go.sizeOf 40).run Try.prog w = .ok 4 w := fun _ => by kernel_rfl
  rw [run_callFunc_extern Try.func42 (by kernel_rfl) (by kernel_rfl) (by kernel_rfl) (e := Extern.SlicesOverlaps.overlaps #[24, 24] #[4]) (by kernel_rfl),
    Lib.run_overlaps_apart (w.drewN m) 24 4 40 Try.underlying24 4 hsz ⟨g, o, none⟩ ⟨gv, ov, none⟩ n c lb cb (fun e => hne e.symm) 40 e X.length cv.size
      (by simp only [World.shape?, show (w.drewN m).heap[g]? = _ from hg, List.size_toArray]) (by simp only [World.shape?, show (w.drewN m).heap[gv]? = _ from h1]) h2 (by simp only [World.frozen?, show (w.drewN m).heap[g]? = _ from hg]; simp) (by simp only [World.frozen?, show (w.drewN m).heap[g]? = _ from hg]; simp)]
  rfl

set_option maxHeartbeats 8000000 in
set_option maxRecDepth 100000 in
/-- in the midst, it does not fit in, and there is room. -/
theorem repl_shift (w : World) (B g c : Nat) (X : List Value) (L V : List Sd) (gv ov cv i j : Nat) (h : RpI w B g c X L V gv ov) (hij : i < j) (hjn : j < L.length) (hk : j < i + V.length) (hroom : i + V.length + (L.length - j) ≤ c) :
    Calls Try.prog 33 #[.slice (some ⟨g, 0, none⟩) L.length c, .int .i64 (i : Int), .int .i64 (j : Int), .slice (some ⟨gv, ov, none⟩) V.length cv] w (RetRp w B g L V i j) := by
  have HOV := Lib.hid (fun m n c o lb cb => ovl_no w g c n m X h.hg gv ov h.hne h.hgv o lb cb)
  have HH := Lib.hid h
  have HVS := Lib.hid h.vsrc
  have HFV := Lib.hid (show (KS.flat V).length = V.length * 4 from KS.flat_len V)
  have HFD := Lib.hid (show (KS.flat (L.drop j)).length = (L.length - j) * 4 by rw [KS.flat_len, List.length_drop]; rfl)
  have HSD := Lib.hid (h.src j)
  have HHD := Lib.hid (h.head i (by omega))
  have HF := Lib.hid (show ∀ g' c' Y w', B ≤ g' → w'.heap[g']? = some (.cells (List.toArray Y) 40 (0, 0)) → i + V.length + (L.length - j) ≤ c' → c' ≤ maxLen → Y.length = c' * 4 → Y.take ((i + V.length + (L.length - j)) * 4) = KS.flat (L.take i) ++ KS.flat V ++ KS.flat (L.drop j) → KeptF (fun b => b = g) w w' → RetRp w B g L V i j (.returned (.slice (some ⟨g', 0, none⟩) (i + V.length + (L.length - j)) c')) w' from fun g' c' Y w' h1 h2 h3 h4 h5 h6 h7 => by
    have e : (L.take i ++ V ++ L.drop j).length = i + V.length + (L.length - j) := by simp only [List.length_append, List.length_take, List.length_drop]; omega
    exact ⟨_, rfl, by rw [← e]; exact OwnK.of_buf h1 h2 (by rw [e]; exact h3) h4 h5 (by rw [e, flat_new]; exact h6), h7⟩)
  obtain ⟨n, hn⟩ : ∃ n, L.length = n := ⟨_, rfl⟩
  obtain ⟨k, hkk⟩ : ∃ k, V.length = k := ⟨_, rfl⟩
  obtain ⟨d, hd⟩ : ∃ d, n - j = d := ⟨_, rfl⟩
  have hc := h.hc
  have hm := h.hm
  have hl := h.hl
  have hk0 := h.hk
  have hX := h.hX
  have HG := Lib.hid h.hg
  have HBg := Lib.hid h.hB
  rw [hn] at hjn hc hl HF HFD ⊢
  rw [hkk] at hk hk0 HF HFV ⊢
  rw [hn, hkk, hd] at hroom
  rw [hd] at HF HFD
  have HXL := Lib.hid hX
  clear h hn hkk hX
  have a0 : (k : Int) ≤ 100 := by omega
  have a1 : ¬ (i : Int) = (j : Int) := by omega
  have a2 : (i : Int) ≤ (j : Int) := by omega
  have a3 : (j : Int) ≤ (c : Int) := by omega
  have a4 : (i : Int) ≤ (c : Int) := by omega
  have a5 : ¬ c = i := by omega
  have a6 : (0 : Int) ≤ (i : Int) := by omega
  have a7 : i ≤ j := by omega
  have a8 : (0 : Int) ≤ (j : Int) := by omega
  have a9 : ¬ (j : Int) = (n : Int) := by omega
  have a10 : (j : Int) ≤ (n : Int) := by omega
  have a11 : ¬ c = j := by omega
  have hw1 : IntKind.i64.wrap ((i : Int) + (k : Int)) = (i : Int) + (k : Int) := by rw [IntKind.wrap_i64]; omega
  have hw2 : IntKind.i64.wrap ((i : Int) + (k : Int) + (d : Int)) = (i : Int) + (k : Int) + (d : Int) := by rw [IntKind.wrap_i64]; omega
  have ht1 : ((i : Int) + (k : Int)).toNat = i + k := by omega
  have ht2 : ((i : Int) + (k : Int) + (d : Int)).toNat = i + k + d := by omega
  have b1 : ¬ (c : Int) < (i : Int) + (k : Int) + (d : Int) := by omega
  have b2 : ¬ (i : Int) + (k : Int) ≤ (j : Int) := by omega
  have b3 : (i : Int) + (k : Int) + (d : Int) ≤ (c : Int) := by omega
  have b4 : (i : Int) + (k : Int) ≤ (i : Int) + (k : Int) + (d : Int) := by omega
  have b5 : (i : Int) ≤ (i : Int) + (k : Int) + (d : Int) := by omega
  have b7 : (0 : Int) ≤ (i : Int) + (k : Int) + (d : Int) := by omega
  have b8 : (0 : Int) ≤ (i : Int) + (k : Int) := by omega
  have b9 : ¬ c = i + k := by omega
  have hov : ∀ m n c o lb cb, (callFunc 42 #[.slice (some ⟨g, o, none⟩) n c, .slice (some ⟨gv, ov, none⟩) lb cb]).run Try.prog (w.drewN m) = .ok (.value (.bool false)) (w.drewN m) := HOV.out
  go_enter Try.func33, Try.ntmps33
  go_wp2_with fail
  go_quiet (fail)
  go_wp2_with (simp only [hov])
  go_upto_region 22 with fail
  go_region_law (refine step_copy_k skt_atlas rfl _ _ rfl g ((i + k) * 4) d (c - (i + k)) ⟨g, j * 4, none⟩ d (c - j) (by simp [Act.eval, Act.put]) (by simp [Act.eval, Act.put]) X _ HG.out (KS.flat (L.drop j)) d (by simp) HFD.out (fun q v hv => (cell_src HG.out).trans (HSD.out q v hv)) (by rw [HFD.out, HXL.out]; omega) (KS.flat_one _) ?_; intro w1 HG1 HK1)
  have HK1' := Lib.hid (show KeptF (fun b => b = g) w w1 from ⟨HK1.out.os, HK1.out.tape, HK1.out.output, HK1.out.size, HK1.out.block⟩)
  obtain ⟨Y1, hY1⟩ : ∃ Y1, splice X ((i + k) * 4) (KS.flat (L.drop j)) = Y1 := ⟨_, rfl⟩
  rw [hY1] at HG1
  have HY1 := Lib.hid hY1
  have HL1 := Lib.hid (show Y1.length = c * 4 by rw [← hY1, length_splice _ _ _ (by rw [HFD.out, HXL.out]; omega), HXL.out])
  have HT2 := Lib.hid (show (splice Y1 (i * 4) (KS.flat V)).take ((i + k + d) * 4) = KS.flat (L.take i) ++ KS.flat V ++ KS.flat (L.drop j) by
    have := shift_take (X := X) (a := i * 4) HFV.out HFD.out (by rw [HXL.out]; omega)
    rw [← Nat.add_mul, ← Nat.add_mul, hY1, HHD.out] at this
    exact this)
  clear hY1 HK1 hov
  go_wp2_with (refine wpList_copy_k skt_atlas rfl _ _ rfl g _ _ _ _ _ _ rfl rfl Y1 _ HG1.out (KS.flat V) k (by simp only [Nat.min_def]; split <;> omega) HFV.out (HVS.out _ HK1'.out) (by rw [HFV.out, HL1.out]; omega) (KS.flat_one V) ?_)
  intro w2 HG2 HK2
  go_wp2_with fail
  go_ret
  exact HF.out g c _ w2 HBg.out HG2.out (by omega) (by unfold maxLen; omega) (by rw [length_splice _ _ _ (by rw [HFV.out, HL1.out]; omega), HL1.out]) HT2.out (HK1'.out.trans HK2.out fun _ _ e => e)

set_option maxHeartbeats 8000000 in
set_option maxRecDepth 100000 in
/-- in the midst, and there is no room. -/
theorem repl_grow (w : World) (B g c : Nat) (X : List Value) (L V : List Sd) (gv ov cv i j : Nat) (h : RpI w B g c X L V gv ov) (hB : B ≤ w.heap.size) (hij : i < j) (hjn : j < L.length) (hk : j < i + V.length) (hroom : c < i + V.length + (L.length - j)) :
    Calls Try.prog 33 #[.slice (some ⟨g, 0, none⟩) L.length c, .int .i64 (i : Int), .int .i64 (j : Int), .slice (some ⟨gv, ov, none⟩) V.length cv] w (RetRp w B g L V i j) := by
  have HH := Lib.hid h
  have HVS := Lib.hid h.vsrc
  have HFV := Lib.hid (show (KS.flat V).length = V.length * 4 from KS.flat_len V)
  have HFD := Lib.hid (show (KS.flat (L.drop j)).length = (L.length - j) * 4 by rw [KS.flat_len, List.length_drop]; rfl)
  have HSD := Lib.hid (h.src j)
  have HHD := Lib.hid (h.head i (by omega))
  have HF := Lib.hid (show ∀ g' c' Y w', B ≤ g' → w'.heap[g']? = some (.cells (List.toArray Y) 40 (0, 0)) → i + V.length + (L.length - j) ≤ c' → c' ≤ maxLen → Y.length = c' * 4 → Y.take ((i + V.length + (L.length - j)) * 4) = KS.flat (L.take i) ++ KS.flat V ++ KS.flat (L.drop j) → KeptF (fun b => b = g) w w' → RetRp w B g L V i j (.returned (.slice (some ⟨g', 0, none⟩) (i + V.length + (L.length - j)) c')) w' from fun g' c' Y w' h1 h2 h3 h4 h5 h6 h7 => by
    have e : (L.take i ++ V ++ L.drop j).length = i + V.length + (L.length - j) := by simp only [List.length_append, List.length_take, List.length_drop]; omega
    exact ⟨_, rfl, by rw [← e]; exact OwnK.of_buf h1 h2 (by rw [e]; exact h3) h4 h5 (by rw [e, flat_new]; exact h6), h7⟩)
  obtain ⟨n, hn⟩ : ∃ n, L.length = n := ⟨_, rfl⟩
  obtain ⟨k, hkk⟩ : ∃ k, V.length = k := ⟨_, rfl⟩
  obtain ⟨d, hd⟩ : ∃ d, n - j = d := ⟨_, rfl⟩
  have hc := h.hc
  have hm := h.hm
  have hl := h.hl
  have hk0 := h.hk
  have hX := h.hX
  have HG := Lib.hid h.hg
  have HBg := Lib.hid h.hB
  rw [hn] at hjn hc hl HF HFD ⊢
  rw [hkk] at hk hk0 HF HFV ⊢
  rw [hn, hkk, hd] at hroom
  rw [hd] at HF HFD
  have HXL := Lib.hid hX
  clear h hn hkk hX
  have a0 : (k : Int) ≤ 100 := by omega
  have a1 : ¬ (i : Int) = (j : Int) := by omega
  have a2 : (i : Int) ≤ (j : Int) := by omega
  have a3 : (j : Int) ≤ (c : Int) := by omega
  have a4 : (i : Int) ≤ (c : Int) := by omega
  have a5 : ¬ c = i := by omega
  have a6 : (0 : Int) ≤ (i : Int) := by omega
  have a7 : i ≤ j := by omega
  have a8 : (0 : Int) ≤ (j : Int) := by omega
  have a9 : ¬ (j : Int) = (n : Int) := by omega
  have a10 : (j : Int) ≤ (n : Int) := by omega
  have a11 : ¬ c = j := by omega
  have hw1 : IntKind.i64.wrap ((i : Int) + (k : Int)) = (i : Int) + (k : Int) := by rw [IntKind.wrap_i64]; omega
  have hw2 : IntKind.i64.wrap ((i : Int) + (k : Int) + (d : Int)) = (i : Int) + (k : Int) + (d : Int) := by rw [IntKind.wrap_i64]; omega
  have ht1 : ((i : Int) + (k : Int)).toNat = i + k := by omega
  have ht2 : ((i : Int) + (k : Int) + (d : Int)).toNat = i + k + d := by omega
  have b1 : (c : Int) < (i : Int) + (k : Int) + (d : Int) := by omega
  have HBw := Lib.hid hB
  have hw3 : IntKind.i64.wrap ((i : Int) + (k : Int) + (d : Int) - (i : Int)) = (i : Int) + (k : Int) + (d : Int) - (i : Int) := by rw [IntKind.wrap_i64]; omega
  clear hB
  go_enter Try.func33, Try.ntmps33
  go_wp2_with fail
  go_quiet (fail)
  go_wp2_with (at_builtin; refine wpList_app_zeros_k skt_atlas 3 Try.underlying3 rfl _ _ rfl g i _ (k + d) (i + k + d) (by omega) _ rfl rfl (by omega) X _ HG.out (by rw [HXL.out]; show _ * 4 ≤ _; omega) (by omega) (by omega) (by omega) ?_)
  intro w1 Y c1 HY HB1
  have HY' := Lib.hid (show w1.heap[w.heap.size]? = some (.cells Y.toArray 40 (0, 0)) ∧ Y.length = c1 * 4 ∧ Y.take (i * 4) = X.take (i * 4) from ⟨HY.out.1, HY.out.2.1, HY.out.2.2.2.2⟩)
  have HC1 := Lib.hid HY.out.2.2.1
  have HM1 := Lib.hid HY.out.2.2.2.1
  have HB1' := Lib.hid (show Below w.heap.size w w1 from ⟨HB1.out.os, HB1.out.tape, HB1.out.output, HB1.out.size, HB1.out.block⟩)
  have hgl : g < w.heap.size := (Array.getElem?_eq_some_iff.1 HG.out).1
  have HGL := Lib.hid hgl
  have HG1 := Lib.hid ((HB1'.out.block g hgl).trans HG.out)
  have hc1 : i + k + d ≤ c1 := HC1.out
  have e1 : ¬ c1 = i := by omega
  have e2 : ¬ c1 = i + k := by omega
  have e3 : (i : Int) + (k : Int) + (d : Int) ≤ (c1 : Int) := by omega
  have e4 : (i : Int) ≤ (i : Int) + (k : Int) + (d : Int) := by omega
  have e5 : (i : Int) + (k : Int) ≤ (i : Int) + (k : Int) + (d : Int) := by omega
  have e6 : (0 : Int) ≤ (i : Int) + (k : Int) := by omega
  clear HY HB1 hgl
  go_wp2_with (refine wpList_copy_k skt_atlas rfl _ _ rfl w.heap.size _ _ _ _ _ _ rfl rfl Y _ HY'.out.1 (KS.flat V) k (by simp only [Nat.min_def]; split <;> omega) HFV.out (HVS.out _ (KeptF.of_below HB1'.out)) (by rw [HFV.out, HY'.out.2.1]; omega) (KS.flat_one V) ?_)
  intro w2 HG2 HK2
  obtain ⟨Y1, hY1⟩ : ∃ Y1, splice Y (i * 4) (KS.flat V) = Y1 := ⟨_, rfl⟩
  rw [hY1] at HG2
  have HL1 := Lib.hid (show Y1.length = c1 * 4 by rw [← hY1, length_splice _ _ _ (by rw [HFV.out, HY'.out.2.1]; omega), HY'.out.2.1])
  have HT2 := Lib.hid (show (splice Y1 ((i + k) * 4) (KS.flat (L.drop j))).take ((i + k + d) * 4) = KS.flat (L.take i) ++ KS.flat V ++ KS.flat (L.drop j) by
    have := fit_take (X := Y) (a := i * 4) HFV.out HFD.out (by rw [HY'.out.2.1]; omega)
    rw [← Nat.add_mul, ← Nat.add_mul, hY1, HY'.out.2.2, HHD.out] at this
    exact this)
  have HGS := Lib.hid (show w2.heap[g]? = some (.cells X.toArray 40 (0, 0)) from (HK2.out.block g (by have := HGL.out; have := HB1'.out.size; omega) (by have := HGL.out; show ¬ g = _; omega)).trans HG1.out)
  clear hY1
  go_upto_region 13 with fail
  go_region_law (refine step_copy_k skt_atlas rfl _ _ rfl w.heap.size ((i + k) * 4) d (c1 - (i + k)) ⟨g, j * 4, none⟩ d (c - j) (by simp [Act.eval, Act.put]) (by simp [Act.eval, Act.put]) Y1 _ HG2.out (KS.flat (L.drop j)) d (by simp) HFD.out (fun q v hv => (cell_src HGS.out).trans (HSD.out q v hv)) (by rw [HFD.out, HL1.out]; omega) (KS.flat_one _) ?_; intro w3 HG3 HK3)
  have HK3' := Lib.hid (show KeptF (fun b => b = w.heap.size) w2 w3 from ⟨HK3.out.os, HK3.out.tape, HK3.out.output, HK3.out.size, HK3.out.block⟩)
  clear HK3
  go_wp2_with fail
  go_ret
  exact HF.out w.heap.size c1 _ w3 HBw.out HG3.out HC1.out HM1.out (by rw [length_splice _ _ _ (by rw [HFD.out, HL1.out]; omega), HL1.out]) HT2.out (((KeptF.of_below HB1'.out).trans (HK2.out.trans HK3'.out fun _ _ e => e)) fun i hi e => absurd (show i = w.heap.size from e) (by omega))

set_option maxHeartbeats 8000000 in
set_option maxRecDepth 100000 in
/-- the end of L is replaced by less. -/
theorem repl_less (w : World) (B g c : Nat) (X : List Value) (L V : List Sd) (gv ov cv i j : Nat) (h : RpI w B g c X L V gv ov) (hij : i < j) (hjn : j = L.length) (hk : i + V.length < j) :
    Calls Try.prog 33 #[.slice (some ⟨g, 0, none⟩) L.length c, .int .i64 (i : Int), .int .i64 (j : Int), .slice (some ⟨gv, ov, none⟩) V.length cv] w (RetRp w B g L V i j) := by
  have HVS := Lib.hid (h.vsrc w (KeptF.refl _ _))
  have HFV := Lib.hid (show (KS.flat V).length = V.length * 4 from KS.flat_len V)
  have HHD := Lib.hid (h.head i (by omega))
  have HF := Lib.hid (show ∀ Y w', w'.heap[g]? = some (.cells (List.toArray Y) 40 (0, 0)) → Y.length = c * 4 → Y.take ((i + V.length) * 4) = KS.flat (L.take i) ++ KS.flat V → KeptF (fun b => b = g) w w' → RetRp w B g L V i j (.returned (.slice (some ⟨g, 0, none⟩) (i + V.length) c)) w' from fun Y w' h2 h5 h6 h7 => by
    have e0 : L.take i ++ V ++ L.drop j = L.take i ++ V := by rw [hjn, List.drop_length, List.append_nil]
    have e : (L.take i ++ V).length = i + V.length := by simp only [List.length_append, List.length_take]; omega
    exact ⟨_, rfl, by rw [e0, ← e]; exact OwnK.of_buf h.hB h2 (by rw [e]; have := h.hc; omega) (by have := h.hm; unfold maxLen; omega) h5 (by rw [e, KS.flat_app]; exact h6), h7⟩)
  obtain ⟨k, hkk⟩ : ∃ k, V.length = k := ⟨_, rfl⟩
  have HK := Lib.hid hkk
  have hc := h.hc
  have hm := h.hm
  have hl := h.hl
  have hk0 := h.hk
  have HXL := Lib.hid h.hX
  have HG := Lib.hid h.hg
  rw [← hjn] at hc hl ⊢
  rw [hkk] at hk hk0 HF HFV ⊢
  clear h hkk hjn
  have a1 : ¬ (i : Int) = (j : Int) := by omega
  have a2 : (i : Int) ≤ (j : Int) := by omega
  have a3 : (j : Int) ≤ (c : Int) := by omega
  have a4 : (i : Int) ≤ (c : Int) := by omega
  have a5 : ¬ c = i := by omega
  have a6 : (0 : Int) ≤ (i : Int) := by omega
  have a7 : i ≤ j := by omega
  have a8 : (i : Int) + (k : Int) < (j : Int) := by omega
  have a9 : (0 : Int) ≤ (i : Int) + (k : Int) := by omega
  have a10 : (i : Int) + (k : Int) ≤ (j : Int) := by omega
  have a11 : ¬ c = i + k := by omega
  have ht1 : ((i : Int) + (k : Int)).toNat = i + k := by omega
  have HFit := Lib.hid (show i * KS.n + V.length * KS.n ≤ X.length by rw [HXL.out, HK.out]; show i * 4 + k * 4 ≤ _; omega)
  go_enter Try.func33, Try.ntmps33
  go_wp2_with (at_builtin; refine wpList_app_room_k skt_atlas rfl _ _ rfl g i _ ⟨gv, ov, none⟩ V cv rfl (by rw [HK.out]; rfl) X _ HG.out HVS.out (by rw [HK.out]; omega) HFit.out ?_)
  intro w1 HG1 HK1
  rw [HK.out]
  obtain ⟨Y1, hY1⟩ : ∃ Y1, splice X (i * KS.n) (KS.flat V) = Y1 := ⟨_, rfl⟩
  rw [hY1] at HG1
  have HL1 := Lib.hid (show Y1.length = c * 4 by rw [← hY1, length_splice _ _ _ (by rw [HFV.out, HXL.out]; show i * 4 + _ ≤ _; omega), HXL.out])
  have HT1 := Lib.hid (show Y1.take ((i + k) * 4) = KS.flat (L.take i) ++ KS.flat V by
    have := splice_take_end (X := X) (o := i * 4) (cs := KS.flat V) (by rw [HXL.out]; omega)
    rw [HFV.out, ← Nat.add_mul, HHD.out] at this
    rw [← hY1]
    exact this)
  have HFit1 := Lib.hid (show (i + k) * 4 + (j - (i + k)) * KS.n ≤ Y1.length by rw [HL1.out]; show _ + _ * 4 ≤ _; omega)
  clear hY1
  go_wp2_with (refine wpList_clear_k skt_atlas one_zero rfl _ rfl g ((i + k) * 4) (j - (i + k)) _ (some ⟨g, (i + k) * 4, none⟩) rfl Y1 _ HG1.out (fun _ => rfl) HFit1.out ?_)
  intro w2 Z HZ HG2 HK2
  go_wp2_with fail
  go_ret
  exact HF.out _ w2 HG2.out (by rw [length_splice _ _ _ (by rw [HZ.out]; exact HFit1.out), HL1.out]) (by rw [splice_take (Nat.le_refl _) (by rw [HL1.out]; omega)]; exact HT1.out) (HK1.out.trans HK2.out fun _ _ e => e)
end Go.Proofs.Ytodcnemnajlbdaa
