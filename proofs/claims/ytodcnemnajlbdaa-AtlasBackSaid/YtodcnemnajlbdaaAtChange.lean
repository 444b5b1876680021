/-
  Layer atlas: change: so many shards are put in place of others, in the next epoch.
-/
import Derived.Test.YtodcnemnajlbdaaAtRepl
namespace Go.Proofs.Ytodcnemnajlbdaa
open Go.RowKit Go.Gz

theorem repl_any (w : World) (B g c : Nat) (X : List Value) (L V : List Sd) (gv ov cv i j : Nat) (h : RpI w B g c X L V gv ov) (hB : B ≤ w.heap.size) (hij : i < j) (hjn : j ≤ L.length) :
    Calls Try.prog 33 #[.slice (some ⟨g, 0, none⟩) L.length c, .int .i64 (i : Int), .int .i64 (j : Int), .slice (some ⟨gv, ov, none⟩) V.length cv] w (RetRp w B g L V i j) := by
  by_cases h1 : j = L.length
  · by_cases h2 : L.length ≤ i + V.length
    · subst h1
      exact repl_end w B g c X L V gv ov cv i h hB hij h2
    · exact repl_less w B g c X L V gv ov cv i j h hij h1 (by omega)
  · by_cases h2 : i + V.length ≤ j
    · exact repl_fit w B g c X L V gv ov cv i j h hij (by omega) h2
    · by_cases h3 : i + V.length + (L.length - j) ≤ c
      · exact repl_shift w B g c X L V gv ov cv i j h hij (by omega) (by omega) h3
      · exact repl_grow w B g c X L V gv ov cv i j h hB hij (by omega) (by omega) (by omega)

def vpOwn (B n : Nat) (L : List Sd) : VP := ⟨fun v w => ∃ q cq, v = .slice q n cq ∧ OwnK KS w B 40 (.slice q n cq) L, fun _ _ _ ⟨q, cq, h1, h2⟩ hb => ⟨q, cq, h1, h2.below hb⟩⟩
def vpNext (B n : Nat) (ep : Int) (L : List Sd) : VP := ⟨fun v w => ∃ q cq, v = .agg #[.int .i64 ep, .slice q n cq] ∧ OwnK KS w B 40 (.slice q n cq) L, fun _ _ _ ⟨q, cq, h1, h2⟩ hb => ⟨q, cq, h1, h2.below hb⟩⟩
def aggC : Value → List Value | .agg xs => xs.toList | _ => []
theorem own_ne {w : World} {B o : Nat} {v : Value} {L : List Sd} {cs : Array Value} {fz : Nat × Nat} {t : TypeId} (h : OwnK KS w B 40 v L) (hb : w.heap[o]? = some (.cells cs t fz)) (ht : t ≠ 40) : ∀ g, v.ownBlock = some g → g ≠ o := fun g hg e => by
  obtain ⟨cs', fz', h1⟩ := h.type g hg
  rw [e, hb] at h1
  injection h1 with h1
  injection h1 with _ h1 _
  exact ht h1
theorem own_lay {w : World} {B o : Nat} {v : Value} {L : List Sd} {cs : Array Value} {fz : Nat × Nat} (h : OwnK KS w B 40 v L) (hb : w.heap[o]? = some (.cells cs 26 fz)) (vs : List Value) : OwnK KS (layCells w o 0 vs) B 40 v L :=
  h.kept (F := fun k => k = o) (KeptF.layCells (F := fun k => k = o) rfl vs 0 w (KeptF.refl _ _)) fun g hg e => own_ne h hb (by decide) g hg e
def StaC (vp : VP) : Prop := ∀ v w o (cs : Array Value) (cs' : List Value) fz, vp.f v w → w.heap[o]? = some (.cells cs 26 fz) → vp.f v (layCells w o 0 cs')
theorem staC_eq (x : Value) : StaC (VP.eq x) := fun _ _ _ _ _ _ h _ => h
theorem staC_any : StaC VP.any := fun _ _ _ _ _ _ h _ => h
theorem staC_own (B n : Nat) (L : List Sd) : StaC (vpOwn B n L) := fun _ _ _ _ cs' _ ⟨q, cq, h1, h2⟩ hb => ⟨q, cq, h1, own_lay h2 hb cs'⟩
theorem staC_next (B n : Nat) (ep : Int) (L : List Sd) : StaC (vpNext B n ep L) := fun _ _ _ _ cs' _ ⟨q, cq, h1, h2⟩ hb => ⟨q, cq, h1, own_lay h2 hb cs'⟩
theorem staC_list (vs : List VP) (h : ∀ vp ∈ vs, StaC vp) : ∀ k v w o (cs : Array Value) fz (cs' : List Value), (VP.at vs k).f v w → w.heap[o]? = some (.cells cs 26 fz) → (VP.at vs k).f v (layCells w o 0 cs') := fun k v w o cs fz cs' hv hb => by
  unfold VP.at at hv ⊢
  cases hk : vs[k]? with
  | none => exact trivial
  | some vp =>
    rw [hk] at hv
    exact h vp (List.mem_of_getElem? hk) v w o cs cs' fz hv hb

/-- the places, as far as they are told. -/
def goneV (a kk m : Nat) : List Value := (List.range m).map fun q : Nat => .int .i64 (if q < kk then (a : Int) + (q : Int) else 0)
theorem goneV_set (a kk m : Nat) (h : kk < m) : (goneV a kk m).toArray.setIfInBounds kk (.int .i64 ((a : Int) + (kk : Int))) = (goneV a (kk + 1) m).toArray := by
  apply Array.ext'
  rw [Array.toList_setIfInBounds]
  refine List.ext_getElem? fun q => ?_
  simp only [goneV, List.getElem?_set, List.getElem?_map, List.length_map, List.length_range]
  by_cases hq : q = kk
  · subst hq
    simp [h]
  · rw [if_neg (fun e => hq e.symm)]
    by_cases hm : q < m
    · rw [List.getElem?_range hm]
      simp only [Option.map_some]
      by_cases h1 : q < kk
      · rw [if_pos h1, if_pos (by omega)]
      · rw [if_neg h1, if_neg (by omega)]
    · rw [List.getElem?_eq_none (by simpa using hm)]
      rfl
theorem info_int : (Try.prog.info? 3).map (fun i => (i.zero, i.size, i.bytes)) = some (some (.int .i64 0), 1, 8) := by kernel_rfl
theorem make_gone (m : Nat) (hm : m ≤ 1000) (a : Nat) (w : World) : ∃ w', (Instr.makeSlice 29 (.int .i64 (m : Int)) (.int .i64 (m : Int))).run Try.prog w = .ok (.slice (some ⟨w.heap.size, 0, none⟩) m m) w' ∧ w'.heap[w.heap.size]? = some (.cells (goneV a 0 m).toArray 3 (0, 0)) ∧ Below w.heap.size w w' := by
  obtain ⟨i0, hi, hz0, hz1, hz2⟩ := info_parts info_int
  have hb : (i0.bytes : Int) * (m : Int) ≤ 281474976710656 := by rw [hz2]; omega
  have hr := run_make (P := Try.prog) w 29 3 i0 (.int .i64 0) Try.underlying29 hi hz0 .i64 .i64 m m (by omega) (by omega) hb (by omega)
  simp only [Int.toNat_natCast] at hr
  refine ⟨_, hr, ?_, (Below.refl _ _).alloc (Nat.le_refl _) _⟩
  rw [alloc_at]
  congr 2
  apply Array.ext'
  rw [hz1, Nat.mul_one]
  show (madeCells #[Value.int .i64 0] m).toList = _
  rw [toList_madeCells_one]
  unfold goneV
  simp [List.map_const']
def goneI (a m : Nat) : List Int := (List.range m).map fun q : Nat => (a : Int) + (q : Int)
theorem gone_row {w : World} {b a m : Nat} (h : w.heap[b]? = some (.cells (goneV a m m).toArray 3 (0, 0))) : Row w .i64 (some ⟨b, 0, none⟩) (goneI a m) := by
  refine Or.inr ⟨b, 0, rfl, (Array.getElem?_eq_some_iff.1 h).1, fun j hj => ?_⟩
  have hj : j < m := by simpa [goneI] using hj
  simp only [World.cell?, h, Nat.zero_add, List.getElem?_toArray, goneV, goneI]
  simp [hj, List.getD]

set_option maxHeartbeats 16000000 in
set_option maxRecDepth 100000 in
theorem change_any (w : World) (ep : Int) (L : List Sd) (p : Option Addr) (c at_ m : Nat) (node : Int) (X : List SP) (ps : Option Addr) (cs : Nat) (hp : RowK KS w p L) (hx : RowK KP w ps X) (hL : L.length ≤ 100) (hX : 0 < X.length ∧ X.length ≤ 100) (hm : 0 < m) (ham : at_ + m ≤ L.length) (hep : 0 ≤ ep ∧ ep ≤ 1000000000) :
    Calls Try.prog 22 #[.agg #[.int .i64 ep, .slice p L.length c], .int .i64 (at_ : Int), .int .i64 (m : Int), .int .i64 node, .slice ps X.length cs] w (RetO w ⟨ep + 1, withL L (X.map (shOf node (ep + 1))) at_ m, goneI at_ m, 0⟩) := by
  have hpc : p ≠ none := fun e => by
    subst e
    have := hp.nil_of
    rw [this] at ham
    simp at ham
    omega
  obtain ⟨w0, hw0⟩ : ∃ w0, ((w.alloc (.cells #[.int .i64 ep, .slice p L.length c] 26)).alloc (.cells #[.int .i64 node] 3)).alloc (.cells #[.int .i64 0, .slice none 0 0] 26) = w0 := ⟨_, rfl⟩
  have hb0 : Below w.heap.size w w0 := hw0 ▸ (((Below.refl _ _).alloc (Nat.le_refl _) _).alloc (by simp) _).alloc (by simp; omega) _
  have HB0 := Lib.hid hb0
  have HZ := Lib.hid (show w0.heap.size = w.heap.size + 3 by rw [← hw0]; simp)
  have HBX := Lib.hid (show BoxA w0 w.heap.size ep (.slice p L.length c) from hw0 ▸ ((BoxA.new w _ _ _).below (below_alloc _ _)).below (below_alloc _ _))
  have HND := Lib.hid (show w0.cell? ⟨w.heap.size + 1, 0, none⟩ = some (.int .i64 node) by rw [← hw0]; simp [go_sem])
  have HRS := Lib.hid (show w0.heap[w.heap.size + 1 + 1]? = some (.cells #[.int .i64 0, .slice none 0 0] 26 (0, 0)) by
    have := alloc_at ((w.alloc (.cells #[.int .i64 ep, .slice p L.length c] 26)).alloc (.cells #[.int .i64 node] 3)) (.cells #[.int .i64 0, .slice none 0 0] 26)
    rw [hw0] at this
    simpa using this)
  have CC := Lib.hid (show ∀ w1, Below w0.heap.size w0 w1 → Calls Try.prog 30 #[.slice p L.length c] w1 (RetK KS w1 40 L) from fun w1 h1 => clone_sd L (by omega) p c w1 ((hp.below hb0).below h1) (fun e => absurd e hpc))
  have CL := Lib.hid (show ∀ w1 b, Below w0.heap.size w0 w1 → b < w1.heap.size → w1.cell? ⟨b, 0, none⟩ = some (.int .i64 (ep + 1)) → Calls Try.prog 31 #[.slice ps X.length cs, .func (.func 32) #[] #[.pointer (some ⟨w.heap.size + 1, 0, none⟩), .pointer (some ⟨b, 0, none⟩)]] w1 (RetK KS w1 40 (X.map (shOf node (ep + 1)))) from fun w1 b h1 hb hc =>
    list_sh X node (ep + 1) (w.heap.size + 1) b ps cs w1 ((hx.below hb0).below h1) (by omega) (by rw [h1.cell (p := ⟨w.heap.size + 1, 0, none⟩) (by show w.heap.size + 1 < _; have := HZ.out; omega)]; exact HND.out) (by have := HZ.out; have := h1.size; omega) hc hb)
  have HF := Lib.hid (show ∀ n' p' c' q' d' w', n' = (withL L (X.map (shOf node (ep + 1))) at_ m).length → RowK KS w' p' (withL L (X.map (shOf node (ep + 1))) at_ m) → Row w' .i64 q' (goneI at_ m) → TyP w' p' 40 → TyP w' q' 3 → Below w.heap.size w w' → RetO w ⟨ep + 1, withL L (X.map (shOf node (ep + 1))) at_ m, goneI at_ m, 0⟩ (.returned (.tuple #[.agg #[.int .i64 (ep + 1), .slice p' n' c'], .slice q' m d', .int .i64 0])) w' from fun n' p' c' q' d' w' hn h1 h2 h3 h4 h5 => ⟨p', c', q', d', by rw [hn, show (goneI at_ m).length = m by simp [goneI]], h1, h2, ⟨h3, h4⟩, h5⟩)
  obtain ⟨V, hV⟩ : ∃ V, X.map (shOf node (ep + 1)) = V := ⟨_, rfl⟩
  have HVL := Lib.hid (show V.length = X.length by rw [← hV, List.length_map])
  rw [hV] at CL HF ⊢
  obtain ⟨n, hN⟩ : ∃ n, L.length = n := ⟨_, rfl⟩
  obtain ⟨k, hK⟩ : ∃ k, X.length = k := ⟨_, rfl⟩
  have HN := Lib.hid hN
  rw [hN] at hL ham HBX CC hw0 ⊢
  rw [hK] at hX HVL CL ⊢
  have HW0 := Lib.hid hw0
  have hpos : (0 : Int) ≤ (at_ : Int) := by omega
  have hwr : IntKind.i64.wrap (ep + 1) = ep + 1 := IntWalk.i64_in _ (by omega)
  have hwr2 : IntKind.i64.wrap ((at_ : Int) + (m : Int)) = (at_ : Int) + (m : Int) := IntWalk.i64_in _ (by omega)
  have hmf : ∀ (fn : Fn) (first cap : Array Value) (w : World), (Instr.makeFunc fn first cap).run Try.prog w = .ok (.func fn first cap) w := fun _ _ _ _ => rfl
  clear hp hx hb0 hw0 hN hK hV
  go_enter Try.func22, Try.ntmps22
  go_upto_region 1 with fail
  rw [HW0.out]
  refine wp_region_lay mixedAt (by kernel_rfl) [VP.eq (.pointer (some ⟨w.heap.size, 0, none⟩)), VP.eq (.int .i64 ep), VP.eq (.int .i64 (ep + 1)), VP.eq (.pointer (some ⟨w.heap.size, 1, none⟩)), VP.eq (.slice p n c), vpOwn w0.heap.size n L, vpNext w0.heap.size n (ep + 1) L, VP.any, VP.any]
    [⟨7, 8, 6, 26, [.int .i64 0, .slice none 0 0], aggC⟩] (by kernel_rfl) ?_ ?_ ?_ ?_ ?_
  · intro kk y hy v w' b cs cs' hv hb _
    simp only [List.mem_cons, List.not_mem_nil, or_false] at hy
    subst hy
    refine staC_list _ (fun vp hvp => ?_) kk v w' b cs (0, 0) cs' hv hb
    simp only [List.mem_cons, List.not_mem_nil, or_false] at hvp
    rcases hvp with rfl | rfl | rfl | rfl | rfl | rfl | rfl | rfl | rfl
    all_goals first | exact staC_eq _ | exact staC_any | exact staC_own _ _ _ | exact staC_next _ _ _ _
  · intro i opr Ls vals w' hi hL' hdep hC hB hV hn
    have hlt : i < 9 := by have := (List.getElem?_eq_some_iff.1 hi).1; simpa using this
    have hn7 : i ≠ 7 ∧ i ≠ 8 := by
      have := hn _ (List.mem_cons_self ..)
      exact ⟨fun e => this.1 e.symm, fun e => this.2 e.symm⟩
    have hVk : ∀ j, Ls j = true → j ≠ 7 → j ≠ 8 → _ := fun j h1 h2 h3 => hV j h1 (fun y hy => by
      simp only [List.mem_cons, List.not_mem_nil, or_false] at hy
      subst hy
      exact ⟨fun e => h2 e.symm, fun e => h3 e.symm⟩)
    clear hV hn
    generalize hA : frA _ _ Ls vals = a'
    have hT5 : a'.tmps.getD 5 undef = .pointer (some ⟨w.heap.size, 0, none⟩) := by rw [← hA, frA_base (by kernel_rfl)]; rfl
    have hD := Lib.hid (fun k t (hk : Ls k = true) (ht : dstOf _ k = some t) => hA ▸ frA_done (by kernel_rfl) (vals := vals) hk ht)
    clear hA
    obtain ⟨_, x0', x1'⟩ := HBX.out.below hB
    obtain rfl | rfl | rfl | rfl | rfl | rfl | rfl : i = 0 ∨ i = 1 ∨ i = 2 ∨ i = 3 ∨ i = 4 ∨ i = 5 ∨ i = 6 := by omega
    all_goals
      injection hi with hi
      subst hi
      try simp [Region.binds] at hdep
    · exact step_run rfl (v := .pointer (some ⟨w.heap.size, 0, none⟩)) (w' := w') (by go_simp) ⟨rfl, Below.refl _ _⟩
    · have d17 := hD.out 0 17 (by simp [hdep]) rfl
      rw [show vals 0 = _ from hVk 0 (by simp [hdep]) (by decide) (by decide)] at d17
      exact step_run rfl (v := .int .i64 ep) (w' := w') (by go_simp) ⟨rfl, Below.refl _ _⟩
    · have d18 := hD.out 1 18 (by simp [hdep]) rfl
      rw [show vals 1 = _ from hVk 1 (by simp [hdep]) (by decide) (by decide)] at d18
      exact step_run rfl (v := .int .i64 (ep + 1)) (w' := w') (by go_simp) ⟨rfl, Below.refl _ _⟩
    · exact step_run rfl (v := .pointer (some ⟨w.heap.size, 1, none⟩)) (w' := w') (by go_simp) ⟨rfl, Below.refl _ _⟩
    · have d20 := hD.out 3 20 (by simp [hdep]) rfl
      rw [show vals 3 = _ from hVk 3 (by simp [hdep]) (by decide) (by decide)] at d20
      exact step_run rfl (v := .slice p n c) (w' := w') (by go_simp) ⟨rfl, Below.refl _ _⟩
    · have d21 := hD.out 4 21 (by simp [hdep]) rfl
      rw [show vals 4 = _ from hVk 4 (by simp [hdep]) (by decide) (by decide)] at d21
      exact step_enter (f := 30) (args := #[.slice p n c]) (w' := w') rfl (by go_simp) ((CC.out w' hB).mono fun e w'' ⟨u, he, h1, h2⟩ => by
        obtain ⟨q, cq, hu, _⟩ := h1.row
        rw [HN.out] at hu
        subst hu
        exact ⟨_, he, ⟨q, cq, rfl, h1.mono hB.size⟩, h2⟩)
    · have d19 := hD.out 2 19 (by simp [hdep]) rfl
      rw [show vals 2 = _ from hVk 2 (by simp [hdep]) (by decide) (by decide)] at d19
      have d22 := hD.out 5 22 (by simp [hdep]) rfl
      obtain ⟨q, cq, ev, g1⟩ : (vpOwn w0.heap.size n L).f (vals 5) w' := hVk 5 (by simp [hdep]) (by decide) (by decide)
      rw [ev] at d22
      rw [Array.getD_eq_getD_getElem?] at d19 d22
      exact step_run rfl (v := .agg #[.int .i64 (ep + 1), .slice q n cq]) (w' := w') (by go_simp) ⟨⟨q, cq, rfl, g1⟩, Below.refl _ _⟩
  · intro y hy o L' vals w' hi
    simp only [List.mem_cons, List.not_mem_nil, or_false] at hy
    subst hy
    injection hi with hi
    subst hi
    exact step_run rfl (v := Lay.ptr w'.heap.size) (w' := w'.alloc (.cells #[.int .i64 0, .slice none 0 0] 26)) (by unfold Lay.ptr; go_simp) ⟨rfl, rfl⟩
  · intro y hy o L' vals w' q hi hLa hLr hJ hV hp hh
    simp only [List.mem_cons, List.not_mem_nil, or_false] at hy
    generalize hA : frA _ _ L' vals = a'
    have hD := Lib.hid (fun k t (hk : L' k = true) (ht : dstOf _ k = some t) => hA ▸ frA_done (by kernel_rfl) (vals := vals) hk ht)
    clear hA
    subst hy
    injection hi with hi
    subst hi
    simp only at hLa hLr hp hh
    have d13 := hD.out 7 13 hLa rfl
    have d23 := hD.out 6 23 hLr rfl
    obtain ⟨qq, cq, ev, g1⟩ : (vpNext w0.heap.size n (ep + 1) L).f (vals 6) w' := hV 6 hLr (fun y hy => by
      simp only [List.mem_cons, List.not_mem_nil, or_false] at hy
      subst hy
      exact ⟨by decide, by decide⟩)
    rw [ev] at d23 ⊢
    rw [hp] at d13
    unfold Lay.ptr at d13
    have z0 : w'.cell? ⟨q, 0, none⟩ = some (.int .i64 0) := by simp [World.cell?, hh]
    have z1 : w'.cell? ⟨q, 1, none⟩ = some (.slice none 0 0) := by simp [World.cell?, hh]
    have f0 : w'.frozen? ⟨q, 0, none⟩ = false := by simp [World.frozen?, hh]
    have f1 : w'.frozen? ⟨q, 1, none⟩ = false := by simp [World.frozen?, hh]
    clear hh hV
    exact stepI_skip rfl (w' := layCells w' q 0 [.int .i64 (ep + 1), .slice qq n cq]) (by unfold layCells layCells layCells; go_simp) ⟨rfl, rfl⟩
  · intro vals w1 hB hV hlay hne
    have hVk : ∀ j, j < 9 → j ≠ 7 → j ≠ 8 → _ := fun j h1 h2 h3 => hV j h1 (fun y hy => by
      simp only [List.mem_cons, List.not_mem_nil, or_false] at hy
      subst hy
      exact ⟨fun e => h2 e.symm, fun e => h3 e.symm⟩)
    obtain ⟨bn, e7, hbn, hob⟩ := hlay _ (List.mem_cons_self ..)
    simp only at e7 hob
    have e0 : vals 0 = .pointer (some ⟨w.heap.size, 0, none⟩) := hVk 0 (by decide) (by decide) (by decide)
    have e1 : vals 1 = .int .i64 ep := hVk 1 (by decide) (by decide) (by decide)
    have e2 : vals 2 = .int .i64 (ep + 1) := hVk 2 (by decide) (by decide) (by decide)
    have e3 : vals 3 = .pointer (some ⟨w.heap.size, 1, none⟩) := hVk 3 (by decide) (by decide) (by decide)
    have e4 : vals 4 = .slice p n c := hVk 4 (by decide) (by decide) (by decide)
    obtain ⟨q5, c5, e5, -⟩ : (vpOwn w0.heap.size n L).f (vals 5) w1 := hVk 5 (by decide) (by decide) (by decide)
    obtain ⟨q, cq, e6, hown⟩ : (vpNext w0.heap.size n (ep + 1) L).f (vals 6) w1 := hVk 6 (by decide) (by decide) (by decide)
    rw [e6] at hob
    obtain ⟨g, cg, Xc, hvq, hBg, hg, hcn, hcm, hXl, hXt⟩ := hown.buf (by have := HN.out; omega)
    injection hvq with hq1 hq2 hq3
    subst hq1 hq3
    clear hq2
    have hob : w1.heap[bn]? = some (.cells #[.int .i64 (ep + 1), .slice (some ⟨g, 0, none⟩) n cq] 26 (0, 0)) := hob
    have hbl : bn < w1.heap.size := (Array.getElem?_eq_some_iff.1 hob).1
    have hgl : g < w1.heap.size := (Array.getElem?_eq_some_iff.1 hg).1
    have hgb : g ≠ bn := own_ne hown hob (by decide) g rfl
    have HB1 := Lib.hid hB
    have HOB := Lib.hid hob
    have HG := Lib.hid hg
    have HI := Lib.hid (And.intro hBg (And.intro hcn (And.intro hcm (And.intro hXl hXt))))
    have HNE := Lib.hid (And.intro hgb (And.intro hbn (And.intro hbl hgl)))
    have CL1 := Lib.hid (CL.out w1 bn hB hbl (by simp [World.cell?, hob]))
    unfold Lay.ptr at e7
    simp only [putsL, Act.put, List.setIfInBounds_toArray, List.set_cons_zero, List.set_cons_succ, e0, e1, e2, e3, e4, e5, e6, e7]
    clear e0 e1 e2 e3 e4 e5 e6 e7 hV hVk hB hlay hne hown hob hg hBg hcn hcm hXl hXt hgb hbn hbl hgl
    go_wp2_with fail
    refine CL1.out.mono ?_
    rintro e w2 ⟨v2, rfl, hown2, hb2⟩
    obtain ⟨gv, cv, Yv, hv2, hBv, hgv, hcv, hmv, hYl, hYt⟩ := hown2.buf (by have := HVL.out; omega)
    rw [HVL.out] at hv2
    subst hv2
    have HB2 := Lib.hid hb2
    have hob2 := (HB2.out.block bn HNE.out.2.2.1).trans HOB.out
    have hRI : RpI w2 w0.heap.size g cq Xc L V gv 0 := ⟨HI.out.1, (HB2.out.block g HNE.out.2.2.2).trans HG.out, HI.out.2.1, by have := HI.out.2.2.1; unfold maxLen at this; exact this, HI.out.2.2.2.1, HI.out.2.2.2.2, by
      obtain ⟨q2, c2, e2, _, _, hr2, _⟩ := hown2.row
      injection e2 with e2
      rw [e2]
      exact hr2, by have := HNE.out.2.2.2; omega, by rw [HN.out]; omega, by rw [HVL.out]; omega, ⟨Yv.toArray, _, _, hgv, by
      rw [List.size_toArray, hYl]
      show cv * 4 ≠ 0
      rw [HVL.out] at hcv
      omega⟩⟩
    have CR := Lib.hid (repl_any w2 w0.heap.size g cq Xc L V gv 0 cv at_ (at_ + m) hRI (by have := HB1.out.size; have := HB2.out.size; omega) (by omega) (by rw [HN.out]; exact ham))
    rw [HN.out, HVL.out, Int.natCast_add] at CR
    have o1a : w2.cell? ⟨bn, 1, none⟩ = some (.slice (some ⟨g, 0, none⟩) n cq) := by simp [World.cell?, hob2]
    have HOB2 := Lib.hid hob2
    clear hown2 hb2 hgv hcv hmv hYl hYt hRI hob2 CL1 hBv
    go_wp2_with fail
    refine CR.out.mono ?_
    rintro e w3 ⟨v3, rfl, hown3, hk3⟩
    have hown3 : OwnK KS w3 w0.heap.size 40 v3 (withL L V at_ m) := hown3
    obtain ⟨q3, c3, hv3, _⟩ := hown3.row
    obtain ⟨n3, hn3⟩ : ∃ n3, (withL L V at_ m).length = n3 := ⟨_, rfl⟩
    rw [hn3] at hv3
    subst hv3
    have hob3 := (hk3.block bn (by have := HB2.out.size; have := HNE.out.2.2.1; omega) (fun e => HNE.out.1 e.symm)).trans HOB2.out
    have HK3 := Lib.hid hk3
    have HO3 := Lib.hid hown3
    have HN3 := Lib.hid hn3
    have HOB3 := Lib.hid hob3
    have o1 : w3.cell? ⟨bn, 1, none⟩ = some (.slice (some ⟨g, 0, none⟩) n cq) := by simp [World.cell?, hob3]
    have f1 : w3.frozen? ⟨bn, 1, none⟩ = false := by simp [World.frozen?, hob3]
    obtain ⟨w5, hmk, hg5, hb5⟩ := make_gone m (by omega) at_ (w3.setCell ⟨bn, 1, none⟩ (.slice q3 n3 c3))
    have HG5 := Lib.hid hg5
    have HB5 := Lib.hid hb5
    clear hown3 hk3 hob3 hn3 CR o1a hg5 hb5
    have HZ5 := Lib.hid (show (w3.setCell ⟨bn, 1, none⟩ (.slice q3 n3 c3)).heap.size = w3.heap.size by simp [World.setCell])
    have HBN := Lib.hid (own_ne HO3.out HOB3.out (by decide))
    have HS3 := Lib.hid (show w0.heap.size ≤ w3.heap.size by have := HB1.out.size; have := HB2.out.size; have := HK3.out.size; omega)
    have HO4 := Lib.hid (HO3.out.setCell (a := ⟨bn, 1, none⟩) (fun e => HBN.out _ e rfl) (.slice q3 n3 c3))
    have HOB4 := Lib.hid (show (w3.setCell ⟨bn, 1, none⟩ (.slice q3 n3 c3)).heap[bn]? = some (.cells #[.int .i64 (ep + 1), .slice q3 n3 c3] 26 (0, 0)) from layCell_block HOB3.out 1 (.slice q3 n3 c3))
    have HRS4 := Lib.hid (show (w3.setCell ⟨bn, 1, none⟩ (.slice q3 n3 c3)).heap[w.heap.size + 1 + 1]? = some (.cells #[.int .i64 0, .slice none 0 0] 26 (0, 0)) by
      have hz := HZ.out
      have h1 := HB1.out.size
      have h2 := HB2.out.size
      have hg := HI.out.1
      have hb := HNE.out.2.1
      rw [Below.heap_setCell _ _ _ _ (show w.heap.size + 1 + 1 ≠ bn by omega), HK3.out.block _ (by omega) (show ¬ w.heap.size + 1 + 1 = g by omega), HB2.out.block _ (by omega), HB1.out.block _ (by omega)]
      exact HRS.out)
    have HB4 := Lib.hid (show Below w.heap.size w (w3.setCell ⟨bn, 1, none⟩ (.slice q3 n3 c3)) from by
      have hz := HZ.out
      have h1 := HB1.out.size
      have hg := HI.out.1
      have hb := HNE.out.2.1
      have h3 : Below w.heap.size w w3 := ((HB0.out.trans (HB1.out.mono HB0.out.size)).trans (HB2.out.mono (by omega))).trans (HK3.out.below (fun b e => by have e : b = g := e; omega) (by have := HB2.out.size; omega))
      exact h3.setCell (by show _ ≤ bn; omega) _)
    go_wp2_with fail
    have HG5' := Lib.hid (show w5.heap[w3.heap.size]? = some (.cells (goneV at_ 0 m).toArray 3 (0, 0)) by rw [← HZ5.out]; exact HG5.out)
    have hmz : (m : Int) ≤ 1000 := by omega
    go_loopw [16, 40] (fun v i wr => ∃ kk : Nat, i = .int .i64 kk ∧ kk ≤ m ∧ Hid (wr.heap[w3.heap.size]? = some (.cells (goneV at_ kk m).toArray 3 (0, 0))) ∧ Hid (KeptF (fun b => b = w3.heap.size) w5 wr)) (fun _ i _ => m - (RowKit.intOf i).toNat)
    case atStart => exact ⟨0, rfl, Nat.zero_le _, HG5', Lib.hid (KeptF.refl _ _)⟩
    case round =>
      obtain ⟨kk, rfl, hkm, HGK, HKK⟩ := hrel
      rcases Nat.lt_or_ge kk m with hk | hk
      · have hkz : (kk : Int) < (m : Int) := by omega
        have hk0 : (0 : Int) ≤ (kk : Int) := by omega
        have z0 : wr.cell? ⟨w3.heap.size, kk, none⟩ = some (.int .i64 0) := by
          simp only [World.cell?, HGK.out]
          simp [goneV, hk]
        have f0 : wr.frozen? ⟨w3.heap.size, kk, none⟩ = false := by simp [World.frozen?, HGK.out]
        have hwk : IntKind.i64.wrap ((at_ : Int) + (kk : Int)) = (at_ : Int) + (kk : Int) := IntWalk.i64_in _ (by omega)
        have HGN := Lib.hid (show (wr.setCell ⟨w3.heap.size, kk, none⟩ (.int .i64 ((at_ : Int) + (kk : Int)))).heap[w3.heap.size]? = some (.cells (goneV at_ (kk + 1) m).toArray 3 (0, 0)) by rw [← goneV_set at_ kk m hk]; exact layCell_block HGK.out kk _)
        have HKN := Lib.hid (HKK.out.set (p := ⟨w3.heap.size, kk, none⟩) rfl (.int .i64 ((at_ : Int) + (kk : Int))))
        go_wp2_with fail
        exact ⟨⟨kk + 1, by go_num, hk, HGN, HKN⟩, by simp [RowKit.intOf]; omega⟩
      · have hkz : ¬ (kk : Int) < (m : Int) := by omega
        obtain rfl : kk = m := by omega
        have hlt3 : ∀ b, b < w3.heap.size → b < w5.heap.size ∧ wr.heap[b]? = (w3.setCell ⟨bn, 1, none⟩ (.slice q3 n3 c3)).heap[b]? := fun b hb => by
          have h1 := HB5.out.size
          rw [HZ5.out] at h1
          exact ⟨by omega, (HKK.out.block b (by omega) (show ¬ b = w3.heap.size by omega)).trans (HB5.out.block b (by rw [HZ5.out]; exact hb))⟩
        have hbn3 : bn < w3.heap.size := (Array.getElem?_eq_some_iff.1 HOB3.out).1
        have hobr := (hlt3 bn hbn3).2.trans HOB4.out
        have hrsr := (hlt3 (w.heap.size + 1 + 1) (by have := HZ.out; have := HS3.out; omega)).2.trans HRS4.out
        have o0 : wr.cell? ⟨bn, 0, none⟩ = some (.int .i64 (ep + 1)) := by simp [World.cell?, hobr]
        have o1 : wr.cell? ⟨bn, 1, none⟩ = some (.slice q3 n3 c3) := by simp [World.cell?, hobr]
        have r0 : wr.cell? ⟨w.heap.size + 1 + 1, 0, none⟩ = some (.int .i64 0) := by simp [World.cell?, hrsr]
        have r1 : wr.cell? ⟨w.heap.size + 1 + 1, 1, none⟩ = some (.slice none 0 0) := by simp [World.cell?, hrsr]
        have f0 : wr.frozen? ⟨w.heap.size + 1 + 1, 0, none⟩ = false := by simp [World.frozen?, hrsr]
        have f1 : wr.frozen? ⟨w.heap.size + 1 + 1, 1, none⟩ = false := by simp [World.frozen?, hrsr]
        have HOK := Lib.hid (show OwnK KS wr w0.heap.size 40 (.slice q3 n3 c3) (withL L V at_ kk) from (HO4.out.below HB5.out).kept HKK.out fun b hb e => by
          have e : b = w3.heap.size := e
          have := (HO3.out.ltB b hb).2
          omega)
        have HBR := Lib.hid (show Below w.heap.size w wr from (HB4.out.trans (HB5.out.mono HB4.out.size)).trans (HKK.out.below (fun b e => by have e : b = w3.heap.size := e; have := HZ.out; have := HS3.out; omega) (HB4.out.trans (HB5.out.mono HB4.out.size)).size))
        clear hobr hrsr hlt3 hbn3
        have HGK' := HGK
        clear HGK
        go_wp2_with fail
        refine bodyPost_ret (v := .tuple #[.agg #[.int .i64 (ep + 1), .slice q3 n3 c3], .slice (some ⟨w3.heap.size, 0, none⟩) kk kk, .int .i64 0]) (by simp [results, Try.results22, go_sem, r0, r1]) rfl ?_
        have hk9 : KeptF (fun b => b = w.heap.size + 1 + 1) wr ((wr.setCell ⟨w.heap.size + 1 + 1, 0, none⟩ (.int .i64 (ep + 1))).setCell ⟨w.heap.size + 1 + 1, 1, none⟩ (.slice q3 n3 c3)) := ((KeptF.refl (fun b => b = w.heap.size + 1 + 1) wr).set (p := ⟨w.heap.size + 1 + 1, 0, none⟩) rfl _).set (p := ⟨w.heap.size + 1 + 1, 1, none⟩) rfl _
        have ho9 := HOK.out.kept hk9 (fun b hb e => by
          have e : b = w.heap.size + 1 + 1 := e
          have := (HOK.out.ltB b hb).1
          have := HZ.out
          omega)
        have hg9 := (hk9.block w3.heap.size (Array.getElem?_eq_some_iff.1 HGK'.out).1 (show ¬ w3.heap.size = w.heap.size + 1 + 1 by have := HZ.out; have := HS3.out; omega)).trans HGK'.out
        obtain ⟨q9, c9, e9, _, _, hr9, _⟩ := ho9.row
        injection e9 with e9 _ _
        refine HF.out n3 q3 c3 (some ⟨w3.heap.size, 0, none⟩) kk _ HN3.out.symm (e9 ▸ hr9) (gone_row hg9) (fun a ha => ?_) (fun a ha => ?_) ((HBR.out.setCell (p := ⟨w.heap.size + 1 + 1, 0, none⟩) (by show _ ≤ w.heap.size + 1 + 1; omega) _).setCell (p := ⟨w.heap.size + 1 + 1, 1, none⟩) (by show _ ≤ w.heap.size + 1 + 1; omega) _)
        · exact ho9.type a.block (by subst ha; rfl)
        · injection ha with ha
          subst ha
          exact ⟨_, _, hg9⟩
end Go.Proofs.Ytodcnemnajlbdaa
