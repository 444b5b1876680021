/-
  Layer once: Note.
-/
import Derived.Test.YtjlkfoaccllflaaOnTab
import Derived.Test.YtjlkfoaccllflaaRegMono
import Derived.WalkSpells
import Derived.Carry
namespace Go.Proofs.Ytjlkfoaccllflaa
open Go.RowKit Go.Gz Go.Maps

theorem newB_above {L : List Ent} {r : RepL} (h : ∀ e ∈ L, Fine e) : newB L r = aboveB L r.c r.s := by
  unfold newB aboveB
  cases hf : findK ck r.c L with
  | none => simp
  | some y =>
    have := (h y (findK_mem hf).1).2
    by_cases hs : y.s < r.s
    · simp [hs]; omega
    · simp [hs]
def HasR (r : RepL) (x : World) (v : Value) : Prop := ∃ p k, v = repV r p k ∧ Recs x p r.ls ∧ (p = none → k = 0)
def HasE (r : RepL) (x : World) (v : Value) : Prop := ∃ p k, v = (⟨r.s, r, p, k⟩ : Ent).val ∧ Recs x p r.ls ∧ (p = none → k = 0)
def NtV (vs : List (Option Value)) (r : RepL) (k : Nat) (v : Value) (x : World) : Prop := EqV vs k v ∧ (k = 9 → HasR r x v) ∧ (k = 10 → HasE r x v)
def NtJ (W : World) (T b : Nat) (L0 : List Ent) (r : RepL) (L : Nat → Bool) (x : World) : Prop :=
  if L 11 = true then ∃ p k, TabAt x T (some b) (putK ck ⟨r.s, r, p, k⟩ L0) ∧ Kept (fun i => i = b) W x else Below W.heap.size W x
theorem NtJ.no {W x : World} {T b : Nat} {L0 : List Ent} {r : RepL} {L : Nat → Bool} (h : NtJ W T b L0 r L x) (hL : L 11 = false) : Below W.heap.size W x := by
  unfold NtJ at h
  rw [hL] at h
  simpa using h
theorem NtJ.of {W x : World} {T b : Nat} {L0 : List Ent} {r : RepL} {L : Nat → Bool} {i : Nat} (hL : L 11 = false) (hi : i ≠ 11) (h : Below W.heap.size W x) : NtJ W T b L0 r (updL L i) x := by
  unfold NtJ
  have : updL L i 11 = false := by unfold updL; rw [if_neg (fun e => hi e.symm)]; exact hL
  rw [this]
  simpa using h
theorem NtV.keep {vs : List (Option Value)} {r : RepL} {k : Nat} {v : Value} {x y : World} (h : NtV vs r k v x) (hr : ∀ p, Recs x p r.ls → Recs y p r.ls) : NtV vs r k v y :=
  ⟨h.1, fun e => by obtain ⟨p, k, h1, h2, h3⟩ := h.2.1 e; exact ⟨p, k, h1, hr p h2, h3⟩, fun e => by obtain ⟨p, k, h1, h2, h3⟩ := h.2.2 e; exact ⟨p, k, h1, hr p h2, h3⟩⟩
theorem NtV.eq {vs : List (Option Value)} {r : RepL} {k : Nat} {v u : Value} {x : World} (h : vs[k]? = some (some u)) (hv : v = u) (h9 : k ≠ 9) (h10 : k ≠ 10) : NtV vs r k v x :=
  ⟨hv ▸ EqV.self h, fun e => absurd e h9, fun e => absurd e h10⟩
theorem NtV.val {vs : List (Option Value)} {r : RepL} {k : Nat} {v u : Value} {x : World} (h : NtV vs r k v x) (e : vs[k]? = some (some u)) : v = u := h.1.of e

/-- what Note leaves. -/
def RetNt (w : World) (T : Nat) (mb : Option Nat) (L : List Ent) (r : RepL) (e : Ending) (w' : World) : Prop :=
  e = .returned (.bool (newB L r)) ∧ ∃ mb' p k, TabAt w' T mb' (noteE L ⟨r.s, r, p, k⟩) ∧ Kept (fun i => i = T ∨ mb = some i) w w' ∧ (∀ b, mb' = some b → mb = some b ∨ w.heap.size ≤ b)
theorem eql_map (w : World) (mb : Option Nat) : (binOp .eql 56 (.map mb) (.map none)).run Try.prog w = .ok (.bool mb.isNone) w := by
  exact run_eql_map_nil w _ _ _ mb Try.underlying56

set_option maxHeartbeats 4000000 in
set_option maxRecDepth 100000 in
theorem note_any (w : World) (T : Nat) (mb : Option Nat) (L : List Ent) (h : TabAt w T mb L) (hL : L.length ≤ 1000000) (r : RepL) (p : Option Addr) (cap : Nat) (hp : Recs w p r.ls) (hl : r.ls.length ≤ 300) (hpc : p = none → cap = 0) (hwf : (Lit.int .i64 r.c).wf = true) :
    Calls Try.prog 14 #[.pointer (some ⟨T, 0, none⟩), repV r p cap] w (RetNt w T mb L r) := by
  obtain ⟨R, hR⟩ : ∃ R, r = R := ⟨_, rfl⟩
  have HR := Lib.hid hR
  rw [hR] at hwf hp hl
  have HNB := Lib.hid (newB_above (r := r) h.n)
  have HWF := Lib.hid hwf
  obtain ⟨c, s, er, fd, v0, ls, nx0, mr⟩ := r
  unfold repV
  simp only
  clear hR
  have hc : R.c = c := by rw [← HR.out]
  have hs : R.s = s := by rw [← HR.out]
  have hls : R.ls = ls := by rw [← HR.out]
  generalize hvx : strB v0 = v
  generalize hnx : strB nx0 = nx
  obtain ⟨n, hn⟩ : ∃ n, ls.length = n := ⟨_, rfl⟩
  rw [hn]
  have hrep : ∀ q k, repV R q k = .agg #[.int .i64 c, .int .i64 s, .int .i64 er, .bool fd, .string v, .slice q n k, .string nx, .bool mr] := fun q k => by rw [← HR.out, ← hvx, ← hnx, ← hn]; rfl
  have hval : ∀ q k, (⟨R.s, R, q, k⟩ : Ent).val = .agg #[.int .i64 s, .int .i64 c, .int .i64 s, .int .i64 er, .bool fd, .string v, .slice q n k, .string nx, .bool mr] := fun q k => by rw [← HR.out, ← hvx, ← hnx, ← hn]; rfl
  have HREP := Lib.hid (And.intro hrep hval)
  have HCS := Lib.hid (And.intro hc hs)
  obtain ⟨W, hW⟩ : ∃ W, w.alloc (.cells #[.int .i64 c, .int .i64 s, .int .i64 er, .bool fd, .string v, .slice p n cap, .string nx, .bool mr] 33) = W := ⟨_, rfl⟩
  have hbw : Below w.heap.size w W := hW ▸ (Below.refl _ _).alloc (Nat.le_refl _) _
  have hz : W.heap.size = w.heap.size + 1 := by rw [← hW]; simp
  have hblk : W.heap[w.heap.size]? = some (.cells #[.int .i64 c, .int .i64 s, .int .i64 er, .bool fd, .string v, .slice p n cap, .string nx, .bool mr] 33 (0, 0)) := hW ▸ new_block _ _ _
  have hT := h.below hbw
  have CA := Lib.hid (above_any W T mb L hT c s (by rw [← hc]; exact hwf))
  have HX := Lib.hid (And.intro (And.intro hp hpc) (And.intro hl hL))
  have HT := Lib.hid hT
  have HT0 := Lib.hid h
  have HB := Lib.hid hbw
  have HZ := Lib.hid hz
  have HK := Lib.hid hblk
  have HF := Lib.hid (show ∀ B w', newB L ⟨c, s, er, fd, v0, ls, nx0, mr⟩ = B → (∃ mb' p k, TabAt w' T mb' (noteE L ⟨s, ⟨c, s, er, fd, v0, ls, nx0, mr⟩, p, k⟩) ∧ Kept (fun i => i = T ∨ mb = some i) w w' ∧ (∀ b, mb' = some b → mb = some b ∨ w.heap.size ≤ b)) → RetNt w T mb L ⟨c, s, er, fd, v0, ls, nx0, mr⟩ (.returned (.bool B)) w' from fun B w' h1 h2 => ⟨by rw [← h1], h2⟩)
  rw [show (⟨c, s, er, fd, v0, ls, nx0, mr⟩ : RepL) = R from HR.out] at HF HNB ⊢
  simp only [show R.s = s from hs, show R.c = c from hc] at HNB
  clear h hT hbw hz hblk hp hpc hl hL hwf hc hs hls hn hvx hnx hrep hval HR
  go_enter Try.func14, Try.ntmps14
  go_upto_region 1 with fail
  have g0 := frozen_at HK.out 0
  have d0 := cell_at HK.out 0
  have d1 := cell_at HK.out 1
  clear hW
  cases hab : aboveB L c s with
  | false =>
    rw [hab] at CA HNB
    clear hab
    go_wp2_with fail
    refine CA.out.mono ?_
    rintro e w1 ⟨rfl, hb1⟩
    have HQ := Lib.hid (show ∃ mb' p k, TabAt w1 T mb' (noteE L ⟨s, R, p, k⟩) ∧ Kept (fun i => i = T ∨ mb = some i) w w1 ∧ (∀ b, mb' = some b → mb = some b ∨ w.heap.size ≤ b) from
      ⟨mb, none, 0, by unfold noteE; rw [HNB.out]; exact HT.out.below hb1, Kept.of_below (HB.out.trans (hb1.mono HB.out.size)), fun b hb => Or.inl hb⟩)
    clear hb1 CA d0 d1 g0
    go_wp2_with fail
    go_ret
    exact HF.out _ _ HNB.out HQ.out
  | true =>
    rw [hab] at CA HNB
    clear hab
    go_wp2_with fail
    refine CA.out.mono ?_
    rintro e w1 ⟨rfl, hb1⟩
    have hk1 := (hb1.block w.heap.size (by have := HZ.out; omega)).trans HK.out
    have hT1 := HT.out.below hb1
    have t0 := hT1.c0
    have t1 := hT1.f0
    have HT1 := Lib.hid hT1
    have HB1 := Lib.hid (HB.out.trans (hb1.mono HB.out.size))
    have HK1 := Lib.hid hk1
    have HZ1 := Lib.hid (show w.heap.size < w1.heap.size by have := HZ.out; have := hb1.size; omega)
    clear hb1 hT1 hk1 CA d0 d1 g0
    have HPS := Lib.hid (show 0 ≤ R.s from newB_pos HNB.out)
    cases mb with
    | none =>
      have hm0 := fun w => eql_map w none
      simp only [Option.isNone_none] at hm0
      have hmk : (Instr.makeMap 56 none).run Try.prog w1 = .ok (.map (some w1.heap.size)) (w1.alloc (.map #[] 0)) := rfl
      have hal : Below w1.heap.size w1 (w1.alloc (.map #[] 0)) := (Below.refl _ _).alloc (Nat.le_refl _) _
      have htb := (hal.block T HT1.out.lt).trans HT1.out.c
      have e0 := cell_at htb 0
      have e1 := frozen_at htb 0
      obtain ⟨W2, hW2⟩ : ∃ W2, (w1.alloc (.map #[] 0)).setCell ⟨T, 0, none⟩ (.map (some w1.heap.size)) = W2 := ⟨_, rfl⟩
      obtain ⟨b, hb0⟩ : ∃ b, w1.heap.size = b := ⟨_, rfl⟩
      have hk12 : Kept (fun i => i = T) w1 W2 := hW2 ▸ (Kept.of_below hal).trans (Kept.set (F := fun i => i = T) (.map (some w1.heap.size)) rfl) fun _ _ e => e
      have hL0 : L = [] := by
        rcases HT1.out.m with ⟨_, h⟩ | ⟨b, h, _⟩
        · exact h
        · cases h
      have hne : T ≠ w1.heap.size := by have := HT1.out.lt; omega
      have him : IM W2 b L := by
        rw [hL0, ← hb0, ← hW2]
        exact (IMap.made w1).block (Below.heap_setCell _ _ _ _ (fun e => hne e.symm))
      have HT2 := Lib.hid (show TabAt W2 T (some b) L from ⟨by rw [← hW2, ← hb0]; exact set_block htb 0 _, Or.inr ⟨b, rfl, him⟩, (by rw [hL0]; intro e he; cases he), by rw [hL0]; intro e he; cases he⟩)
      have HK2 := Lib.hid ((hk12.block w.heap.size HZ1.out (by have := HT0.out.lt; omega)).trans HK1.out)
      have HLT := Lib.hid (show w.heap.size < W2.heap.size by have := hk12.size; have := HZ1.out; omega)
      have HX2 := Lib.hid (show (Recs W2 p R.ls ∧ (p = none → cap = 0)) ∧ (R.ls.length ≤ 300 ∧ L.length ≤ 1000000) ∧ (Lit.int .i64 (ck ⟨R.s, R, p, cap⟩)).wf = true from
        ⟨⟨(HX.out.1.1.below HB1.out).kept hk12 fun i hi => hi ▸ HT1.out.noText, HX.out.1.2⟩, HX.out.2, HWF.out⟩)
      have HG2 := Lib.hid (show ∀ x, (∃ p k, TabAt x T (some b) (putK ck ⟨R.s, R, p, k⟩ L) ∧ Kept (fun i => i = b) W2 x) → ∃ mb' p k, TabAt x T mb' (noteE L ⟨s, R, p, k⟩) ∧ Kept (fun i => i = T ∨ none = some i) w x ∧ (∀ z, mb' = some z → none = some z ∨ w.heap.size ≤ z) from fun x ⟨p', k', ht, hk⟩ => ⟨some b, p', k', by unfold noteE; rw [HNB.out]; exact HCS.out.2 ▸ ht, (((Kept.of_below HB1.out).trans hk12 fun _ _ e => e).trans hk (fun i hi e => by have := HZ1.out; omega)).mono (fun i _ e => Or.inl e), fun b' e => Or.inr (by injection e with e; have := HZ1.out; omega)⟩)
      have HW2 := Lib.hid hW2
      clear hk12 hal him hne hL0 htb hW2 hb0
      go_upto_region 5 with fail
      rw [HW2.out]
      clear e0 e1 hmk hm0 HW2
      refine wp_region_gen mixedOn (by kernel_rfl) (NtV [some (.pointer (some ⟨T, 0, none⟩)), some (.pointer (some ⟨T, 0, none⟩)), some (.pointer (some ⟨T, 0, none⟩)), some (.map (some b)), some (.pointer (some ⟨w.heap.size, 0, none⟩)), some (.int .i64 c), some (.pointer (some ⟨w.heap.size, 1, none⟩)), some (.int .i64 s), some (.agg #[.int .i64 c, .int .i64 s, .int .i64 er, .bool fd, .string v, .slice p n cap, .string nx, .bool mr]), none, none, none] R) (NtJ W2 T b L R) ?_ ?_ ?_
      · unfold NtJ
        rw [if_neg (by decide)]
        exact (Below.refl _ _).drew
      · intro i o L' vals x hi hL hdep hC hJ hV
        have hlt : i < 12 := by have := (List.getElem?_eq_some_iff.1 hi).1; simpa using this
        generalize hA : frA _ _ L' vals = a'
        have hT0 : a'.tmps.getD 0 undef = .pointer (some ⟨T, 0, none⟩) := by rw [← hA, frA_base (by kernel_rfl)]; rfl
        have hT3 : a'.tmps.getD 3 undef = .pointer (some ⟨w.heap.size, 0, none⟩) := by rw [← hA, frA_base (by kernel_rfl)]; rfl
        have hD := Lib.hid (fun k t (hk : L' k = true) (ht : dstOf _ k = some t) => hA ▸ frA_done (by kernel_rfl) (vals := vals) hk ht)
        clear hA
        obtain rfl | rfl | rfl | rfl | rfl | rfl | rfl | rfl | rfl | rfl | rfl | rfl : i = 0 ∨ i = 1 ∨ i = 2 ∨ i = 3 ∨ i = 4 ∨ i = 5 ∨ i = 6 ∨ i = 7 ∨ i = 8 ∨ i = 9 ∨ i = 10 ∨ i = 11 := by omega
        all_goals
          injection hi with hi
          subst hi
          try simp [Region.binds] at hdep
        · have n11 : L' 11 = false := by
            cases h : L' 11 with
            | false => rfl
            | true => exact absurd (hC.path [11, 3, 2, 1, 0] (by kernel_rfl) 11 rfl h 0 rfl) (by simp [hL])
          have hb := hJ.no n11
          have hx := (hb.block w.heap.size HLT.out).trans HK2.out
          have hxT := HT2.out.below hb
          exact step_run rfl (v := .pointer (some ⟨T, 0, none⟩)) (w' := x) (by go_simp) ⟨NtV.eq rfl rfl (by decide) (by decide), NtJ.of n11 (by decide) hb, fun _ _ _ h => h⟩
        · have n11 : L' 11 = false := by
            cases h : L' 11 with
            | false => rfl
            | true => exact absurd (hC.path [11, 3, 2, 1] (by kernel_rfl) 11 rfl h 1 rfl) (by simp [hL])
          have hb := hJ.no n11
          have hx := (hb.block w.heap.size HLT.out).trans HK2.out
          have hxT := HT2.out.below hb
          have d25 := hD.out 0 25 (by simp [hdep]) rfl
          rw [(hV 0 (by simp [hdep])).val rfl] at d25
          exact step_run rfl (v := .pointer (some ⟨T, 0, none⟩)) (w' := x) (by go_simp) ⟨NtV.eq rfl rfl (by decide) (by decide), NtJ.of n11 (by decide) hb, fun _ _ _ h => h⟩
        · have n11 : L' 11 = false := by
            cases h : L' 11 with
            | false => rfl
            | true => exact absurd (hC.path [11, 3, 2] (by kernel_rfl) 11 rfl h 2 rfl) (by simp [hL])
          have hb := hJ.no n11
          have hx := (hb.block w.heap.size HLT.out).trans HK2.out
          have hxT := HT2.out.below hb
          have d26 := hD.out 1 26 (by simp [hdep]) rfl
          rw [(hV 1 (by simp [hdep])).val rfl] at d26
          exact step_run rfl (v := .pointer (some ⟨T, 0, none⟩)) (w' := x) (by go_simp) ⟨NtV.eq rfl rfl (by decide) (by decide), NtJ.of n11 (by decide) hb, fun _ _ _ h => h⟩
        · have n11 : L' 11 = false := by
            cases h : L' 11 with
            | false => rfl
            | true => exact absurd (hC.path [11, 3] (by kernel_rfl) 11 rfl h 3 rfl) (by simp [hL])
          have hb := hJ.no n11
          have hx := (hb.block w.heap.size HLT.out).trans HK2.out
          have hxT := HT2.out.below hb
          have d27 := hD.out 2 27 (by simp [hdep]) rfl
          rw [(hV 2 (by simp [hdep])).val rfl] at d27
          have t0 := hxT.c0
          exact step_run rfl (v := .map (some b)) (w' := x) (by go_simp) ⟨NtV.eq rfl rfl (by decide) (by decide), NtJ.of n11 (by decide) hb, fun _ _ _ h => h⟩
        · have n11 : L' 11 = false := by
            cases h : L' 11 with
            | false => rfl
            | true => exact absurd (hC.path [11, 5, 4] (by kernel_rfl) 11 rfl h 4 rfl) (by simp [hL])
          have hb := hJ.no n11
          have hx := (hb.block w.heap.size HLT.out).trans HK2.out
          have hxT := HT2.out.below hb
          exact step_run rfl (v := .pointer (some ⟨w.heap.size, 0, none⟩)) (w' := x) (by go_simp) ⟨NtV.eq rfl rfl (by decide) (by decide), NtJ.of n11 (by decide) hb, fun _ _ _ h => h⟩
        · have n11 : L' 11 = false := by
            cases h : L' 11 with
            | false => rfl
            | true => exact absurd (hC.path [11, 5] (by kernel_rfl) 11 rfl h 5 rfl) (by simp [hL])
          have hb := hJ.no n11
          have hx := (hb.block w.heap.size HLT.out).trans HK2.out
          have hxT := HT2.out.below hb
          have d29 := hD.out 4 29 (by simp [hdep]) rfl
          rw [(hV 4 (by simp [hdep])).val rfl] at d29
          have t0 := cell_at hx 0
          exact step_run rfl (v := .int .i64 c) (w' := x) (by go_simp) ⟨NtV.eq rfl rfl (by decide) (by decide), NtJ.of n11 (by decide) hb, fun _ _ _ h => h⟩
        · have n11 : L' 11 = false := by
            cases h : L' 11 with
            | false => rfl
            | true => exact absurd (hC.path [11, 10, 7, 6] (by kernel_rfl) 11 rfl h 6 rfl) (by simp [hL])
          have hb := hJ.no n11
          have hx := (hb.block w.heap.size HLT.out).trans HK2.out
          have hxT := HT2.out.below hb
          exact step_run rfl (v := .pointer (some ⟨w.heap.size, 1, none⟩)) (w' := x) (by go_simp) ⟨NtV.eq rfl rfl (by decide) (by decide), NtJ.of n11 (by decide) hb, fun _ _ _ h => h⟩
        · have n11 : L' 11 = false := by
            cases h : L' 11 with
            | false => rfl
            | true => exact absurd (hC.path [11, 10, 7] (by kernel_rfl) 11 rfl h 7 rfl) (by simp [hL])
          have hb := hJ.no n11
          have hx := (hb.block w.heap.size HLT.out).trans HK2.out
          have hxT := HT2.out.below hb
          have d31 := hD.out 6 31 (by simp [hdep]) rfl
          rw [(hV 6 (by simp [hdep])).val rfl] at d31
          have t0 := cell_at hx 1
          exact step_run rfl (v := .int .i64 s) (w' := x) (by go_simp) ⟨NtV.eq rfl rfl (by decide) (by decide), NtJ.of n11 (by decide) hb, fun _ _ _ h => h⟩
        · have n11 : L' 11 = false := by
            cases h : L' 11 with
            | false => rfl
            | true => exact absurd (hC.path [11, 10, 9, 8] (by kernel_rfl) 11 rfl h 8 rfl) (by simp [hL])
          have hb := hJ.no n11
          have hx := (hb.block w.heap.size HLT.out).trans HK2.out
          have hxT := HT2.out.below hb
          have t0 := cell_at hx 0
          have t1 := cell_at hx 1
          have t2 := cell_at hx 2
          have t3 := cell_at hx 3
          have t4 := cell_at hx 4
          have t5 := cell_at hx 5
          have t6 := cell_at hx 6
          have t7 := cell_at hx 7
          exact step_run rfl (v := .agg #[.int .i64 c, .int .i64 s, .int .i64 er, .bool fd, .string v, .slice p n cap, .string nx, .bool mr]) (w' := x) (by go_simp) ⟨NtV.eq rfl rfl (by decide) (by decide), NtJ.of n11 (by decide) hb, fun _ _ _ h => h⟩
        · have n11 : L' 11 = false := by
            cases h : L' 11 with
            | false => rfl
            | true => exact absurd (hC.path [11, 10, 9] (by kernel_rfl) 11 rfl h 9 rfl) (by simp [hL])
          have hb := hJ.no n11
          have hx := (hb.block w.heap.size HLT.out).trans HK2.out
          have hxT := HT2.out.below hb
          have d33 := hD.out 8 33 (by simp [hdep]) rfl
          rw [(hV 8 (by simp [hdep])).val rfl] at d33
          have hr := HX2.out.1.1.below hb
          have CC := own_any R (by have := HX2.out.2.1.1; omega) p cap x hr HX2.out.1.2
          rw [HREP.out.1 p cap] at CC
          refine step_enter rfl (w' := x) (by go_simp) (CC.mono ?_)
          rintro e x' ⟨p', k', rfl, hr', hpk', hb', -⟩
          exact ⟨_, rfl, ⟨EqV.no rfl, fun _ => ⟨p', k', rfl, hr', hpk'⟩, fun h => absurd h (by decide)⟩, NtJ.of n11 (by decide) (hb.trans (hb'.mono hb.size)), fun k u _ h => h.keep fun q hq => hq.below hb'⟩
        · have n11 : L' 11 = false := by
            cases h : L' 11 with
            | false => rfl
            | true => exact absurd (hC.path [11, 10] (by kernel_rfl) 11 rfl h 10 rfl) (by simp [hL])
          have hb := hJ.no n11
          have hx := (hb.block w.heap.size HLT.out).trans HK2.out
          have hxT := HT2.out.below hb
          have d32 := hD.out 7 32 (by simp [hdep]) rfl
          rw [(hV 7 (by simp [hdep])).val rfl] at d32
          have d34 := hD.out 9 34 (by simp [hdep]) rfl
          obtain ⟨p', k', he, hr', hpk'⟩ := (hV 9 (by simp [hdep])).2.1 rfl
          rw [he, HREP.out.1 p' k'] at d34
          rw [Array.getD_eq_getD_getElem?] at d32 d34
          exact step_run rfl (v := .agg #[.int .i64 s, .int .i64 c, .int .i64 s, .int .i64 er, .bool fd, .string v, .slice p' n k', .string nx, .bool mr]) (w' := x) (by go_simp) ⟨⟨EqV.no rfl, fun h => absurd h (by decide), fun _ => ⟨p', k', (HREP.out.2 p' k').symm, hr', hpk'⟩⟩, NtJ.of n11 (by decide) hb, fun _ _ _ h => h⟩
        · have hb := hJ.no hL
          have hxT := HT2.out.below hb
          have d28 := hD.out 3 28 (by simp [hdep]) rfl
          rw [(hV 3 (by simp [hdep])).val rfl] at d28
          have d30 := hD.out 5 30 (by simp [hdep]) rfl
          rw [(hV 5 (by simp [hdep])).val rfl] at d30
          have d35 := hD.out 10 35 (by simp [hdep]) rfl
          obtain ⟨p', k', he, hr', hpk'⟩ := (hV 10 (by simp [hdep])).2.2 rfl
          rw [he, HREP.out.2 p' k'] at d35
          obtain ⟨b', hb', him⟩ : ∃ b', some b = some b' ∧ IM x b' L := by
            rcases hxT.m with ⟨h, _⟩ | h
            · cases h
            · exact h
          obtain rfl : b = b' := Option.some.inj hb'
          obtain ⟨x', hrun, him', hg⟩ := him.store Try.underlying3 Try.underlying56 (by have := HX2.out.2.1.2; unfold maxLen; omega) ⟨R.s, R, p', k'⟩ HX2.out.2.2
          rw [show (ck ⟨R.s, R, p', k'⟩ : Int) = c from HCS.out.1, HREP.out.2 p' k'] at hrun
          have hk : Kept (fun i => i = b) x x' := Kept.grown hg fun g e => by injection e with e; exact e.symm
          have hno : ∀ i, i = b → NoText x i := fun i hi => hi ▸ hxT.m.noText b rfl
          have hTb : T ≠ b := fun e => hxT.noT b rfl e.symm
          refine stepI_skip rfl (w' := x') (by go_simp) ⟨⟨EqV.no rfl, fun h => absurd h (by decide), fun h => absurd h (by decide)⟩, ?_, fun k u _ h => h.keep fun q hq => hq.kept hk hno⟩
          unfold NtJ
          rw [if_pos (by simp [updL])]
          exact ⟨p', k', ⟨(hk.block T hxT.lt hTb).trans hxT.c, Or.inr ⟨b, rfl, him'⟩, fun e he => by
            rcases mem_putK he with rfl | he
            · exact (show EntIn x ⟨R.s, R, p', k'⟩ from ⟨hr', HX2.out.2.1.1, hpk', HX2.out.2.2⟩).kept hk hno
            · exact (hxT.e e he).kept hk hno, fun e he => by
            rcases mem_putK he with rfl | he
            · exact ⟨rfl, HPS.out⟩
            · exact hxT.n e he⟩, (Kept.of_below hb).trans hk fun _ _ e => e⟩
      · intro vals x hJ hV
        unfold NtJ at hJ
        rw [if_pos (by decide)] at hJ
        have HQ := Lib.hid (HG2.out x hJ)
        clear hJ hV
        simp only [putsL, Act.put, List.setIfInBounds_toArray, List.set_cons_zero, List.set_cons_succ]
        go_wp2_with fail
        go_ret
        exact HF.out _ _ HNB.out HQ.out
    | some b =>
      have hm0 := fun w => eql_map w (some b)
      simp only [Option.isNone_some] at hm0
      obtain ⟨W2, hW2⟩ : ∃ W2, w1 = W2 := ⟨_, rfl⟩
      have HT2 := Lib.hid (show TabAt W2 T (some b) L from hW2 ▸ HT1.out)
      have HK2 := Lib.hid (hW2 ▸ HK1.out)
      have HLT := Lib.hid (show w.heap.size < W2.heap.size from hW2 ▸ HZ1.out)
      have HX2 := Lib.hid (show (Recs W2 p R.ls ∧ (p = none → cap = 0)) ∧ (R.ls.length ≤ 300 ∧ L.length ≤ 1000000) ∧ (Lit.int .i64 (ck ⟨R.s, R, p, cap⟩)).wf = true from
        ⟨⟨HX.out.1.1.below (hW2 ▸ HB1.out), HX.out.1.2⟩, HX.out.2, HWF.out⟩)
      have HG2 := Lib.hid (show ∀ x, (∃ p k, TabAt x T (some b) (putK ck ⟨R.s, R, p, k⟩ L) ∧ Kept (fun i => i = b) W2 x) → ∃ mb' p k, TabAt x T mb' (noteE L ⟨s, R, p, k⟩) ∧ Kept (fun i => i = T ∨ some b = some i) w x ∧ (∀ z, mb' = some z → some b = some z ∨ w.heap.size ≤ z) from fun x ⟨p', k', ht, hk⟩ => ⟨some b, p', k', by unfold noteE; rw [HNB.out]; exact HCS.out.2 ▸ ht, ((Kept.of_below (hW2 ▸ HB1.out)).trans hk (fun i _ e => e)).mono (fun i _ e => Or.inr (by rw [e])), fun b' e => Or.inl e⟩)
      have HW2 := Lib.hid hW2
      clear hW2
      go_upto_region 5 with fail
      rw [HW2.out]
      clear hm0 HW2
      refine wp_region_gen mixedOn (by kernel_rfl) (NtV [some (.pointer (some ⟨T, 0, none⟩)), some (.pointer (some ⟨T, 0, none⟩)), some (.pointer (some ⟨T, 0, none⟩)), some (.map (some b)), some (.pointer (some ⟨w.heap.size, 0, none⟩)), some (.int .i64 c), some (.pointer (some ⟨w.heap.size, 1, none⟩)), some (.int .i64 s), some (.agg #[.int .i64 c, .int .i64 s, .int .i64 er, .bool fd, .string v, .slice p n cap, .string nx, .bool mr]), none, none, none] R) (NtJ W2 T b L R) ?_ ?_ ?_
      · unfold NtJ
        rw [if_neg (by decide)]
        exact (Below.refl _ _).drew
      · intro i o L' vals x hi hL hdep hC hJ hV
        have hlt : i < 12 := by have := (List.getElem?_eq_some_iff.1 hi).1; simpa using this
        generalize hA : frA _ _ L' vals = a'
        have hT0 : a'.tmps.getD 0 undef = .pointer (some ⟨T, 0, none⟩) := by rw [← hA, frA_base (by kernel_rfl)]; rfl
        have hT3 : a'.tmps.getD 3 undef = .pointer (some ⟨w.heap.size, 0, none⟩) := by rw [← hA, frA_base (by kernel_rfl)]; rfl
        have hD := Lib.hid (fun k t (hk : L' k = true) (ht : dstOf _ k = some t) => hA ▸ frA_done (by kernel_rfl) (vals := vals) hk ht)
        clear hA
        obtain rfl | rfl | rfl | rfl | rfl | rfl | rfl | rfl | rfl | rfl | rfl | rfl : i = 0 ∨ i = 1 ∨ i = 2 ∨ i = 3 ∨ i = 4 ∨ i = 5 ∨ i = 6 ∨ i = 7 ∨ i = 8 ∨ i = 9 ∨ i = 10 ∨ i = 11 := by omega
        all_goals
          injection hi with hi
          subst hi
          try simp [Region.binds] at hdep
        · have n11 : L' 11 = false := by
            cases h : L' 11 with
            | false => rfl
            | true => exact absurd (hC.path [11, 3, 2, 1, 0] (by kernel_rfl) 11 rfl h 0 rfl) (by simp [hL])
          have hb := hJ.no n11
          have hx := (hb.block w.heap.size HLT.out).trans HK2.out
          have hxT := HT2.out.below hb
          exact step_run rfl (v := .pointer (some ⟨T, 0, none⟩)) (w' := x) (by go_simp) ⟨NtV.eq rfl rfl (by decide) (by decide), NtJ.of n11 (by decide) hb, fun _ _ _ h => h⟩
        · have n11 : L' 11 = false := by
            cases h : L' 11 with
            | false => rfl
            | true => exact absurd (hC.path [11, 3, 2, 1] (by kernel_rfl) 11 rfl h 1 rfl) (by simp [hL])
          have hb := hJ.no n11
          have hx := (hb.block w.heap.size HLT.out).trans HK2.out
          have hxT := HT2.out.below hb
          have d25 := hD.out 0 25 (by simp [hdep]) rfl
          rw [(hV 0 (by simp [hdep])).val rfl] at d25
          exact step_run rfl (v := .pointer (some ⟨T, 0, none⟩)) (w' := x) (by go_simp) ⟨NtV.eq rfl rfl (by decide) (by decide), NtJ.of n11 (by decide) hb, fun _ _ _ h => h⟩
        · have n11 : L' 11 = false := by
            cases h : L' 11 with
            | false => rfl
            | true => exact absurd (hC.path [11, 3, 2] (by kernel_rfl) 11 rfl h 2 rfl) (by simp [hL])
          have hb := hJ.no n11
          have hx := (hb.block w.heap.size HLT.out).trans HK2.out
          have hxT := HT2.out.below hb
          have d26 := hD.out 1 26 (by simp [hdep]) rfl
          rw [(hV 1 (by simp [hdep])).val rfl] at d26
          exact step_run rfl (v := .pointer (some ⟨T, 0, none⟩)) (w' := x) (by go_simp) ⟨NtV.eq rfl rfl (by decide) (by decide), NtJ.of n11 (by decide) hb, fun _ _ _ h => h⟩
        · have n11 : L' 11 = false := by
            cases h : L' 11 with
            | false => rfl
            | true => exact absurd (hC.path [11, 3] (by kernel_rfl) 11 rfl h 3 rfl) (by simp [hL])
          have hb := hJ.no n11
          have hx := (hb.block w.heap.size HLT.out).trans HK2.out
          have hxT := HT2.out.below hb
          have d27 := hD.out 2 27 (by simp [hdep]) rfl
          rw [(hV 2 (by simp [hdep])).val rfl] at d27
          have t0 := hxT.c0
          exact step_run rfl (v := .map (some b)) (w' := x) (by go_simp) ⟨NtV.eq rfl rfl (by decide) (by decide), NtJ.of n11 (by decide) hb, fun _ _ _ h => h⟩
        · have n11 : L' 11 = false := by
            cases h : L' 11 with
            | false => rfl
            | true => exact absurd (hC.path [11, 5, 4] (by kernel_rfl) 11 rfl h 4 rfl) (by simp [hL])
          have hb := hJ.no n11
          have hx := (hb.block w.heap.size HLT.out).trans HK2.out
          have hxT := HT2.out.below hb
          exact step_run rfl (v := .pointer (some ⟨w.heap.size, 0, none⟩)) (w' := x) (by go_simp) ⟨NtV.eq rfl rfl (by decide) (by decide), NtJ.of n11 (by decide) hb, fun _ _ _ h => h⟩
        · have n11 : L' 11 = false := by
            cases h : L' 11 with
            | false => rfl
            | true => exact absurd (hC.path [11, 5] (by kernel_rfl) 11 rfl h 5 rfl) (by simp [hL])
          have hb := hJ.no n11
          have hx := (hb.block w.heap.size HLT.out).trans HK2.out
          have hxT := HT2.out.below hb
          have d29 := hD.out 4 29 (by simp [hdep]) rfl
          rw [(hV 4 (by simp [hdep])).val rfl] at d29
          have t0 := cell_at hx 0
          exact step_run rfl (v := .int .i64 c) (w' := x) (by go_simp) ⟨NtV.eq rfl rfl (by decide) (by decide), NtJ.of n11 (by decide) hb, fun _ _ _ h => h⟩
        · have n11 : L' 11 = false := by
            cases h : L' 11 with
            | false => rfl
            | true => exact absurd (hC.path [11, 10, 7, 6] (by kernel_rfl) 11 rfl h 6 rfl) (by simp [hL])
          have hb := hJ.no n11
          have hx := (hb.block w.heap.size HLT.out).trans HK2.out
          have hxT := HT2.out.below hb
          exact step_run rfl (v := .pointer (some ⟨w.heap.size, 1, none⟩)) (w' := x) (by go_simp) ⟨NtV.eq rfl rfl (by decide) (by decide), NtJ.of n11 (by decide) hb, fun _ _ _ h => h⟩
        · have n11 : L' 11 = false := by
            cases h : L' 11 with
            | false => rfl
            | true => exact absurd (hC.path [11, 10, 7] (by kernel_rfl) 11 rfl h 7 rfl) (by simp [hL])
          have hb := hJ.no n11
          have hx := (hb.block w.heap.size HLT.out).trans HK2.out
          have hxT := HT2.out.below hb
          have d31 := hD.out 6 31 (by simp [hdep]) rfl
          rw [(hV 6 (by simp [hdep])).val rfl] at d31
          have t0 := cell_at hx 1
          exact step_run rfl (v := .int .i64 s) (w' := x) (by go_simp) ⟨NtV.eq rfl rfl (by decide) (by decide), NtJ.of n11 (by decide) hb, fun _ _ _ h => h⟩
        · have n11 : L' 11 = false := by
            cases h : L' 11 with
            | false => rfl
            | true => exact absurd (hC.path [11, 10, 9, 8] (by kernel_rfl) 11 rfl h 8 rfl) (by simp [hL])
          have hb := hJ.no n11
          have hx := (hb.block w.heap.size HLT.out).trans HK2.out
          have hxT := HT2.out.below hb
          have t0 := cell_at hx 0
          have t1 := cell_at hx 1
          have t2 := cell_at hx 2
          have t3 := cell_at hx 3
          have t4 := cell_at hx 4
          have t5 := cell_at hx 5
          have t6 := cell_at hx 6
          have t7 := cell_at hx 7
          exact step_run rfl (v := .agg #[.int .i64 c, .int .i64 s, .int .i64 er, .bool fd, .string v, .slice p n cap, .string nx, .bool mr]) (w' := x) (by go_simp) ⟨NtV.eq rfl rfl (by decide) (by decide), NtJ.of n11 (by decide) hb, fun _ _ _ h => h⟩
        · have n11 : L' 11 = false := by
            cases h : L' 11 with
            | false => rfl
            | true => exact absurd (hC.path [11, 10, 9] (by kernel_rfl) 11 rfl h 9 rfl) (by simp [hL])
          have hb := hJ.no n11
          have hx := (hb.block w.heap.size HLT.out).trans HK2.out
          have hxT := HT2.out.below hb
          have d33 := hD.out 8 33 (by simp [hdep]) rfl
          rw [(hV 8 (by simp [hdep])).val rfl] at d33
          have hr := HX2.out.1.1.below hb
          have CC := own_any R (by have := HX2.out.2.1.1; omega) p cap x hr HX2.out.1.2
          rw [HREP.out.1 p cap] at CC
          refine step_enter rfl (w' := x) (by go_simp) (CC.mono ?_)
          rintro e x' ⟨p', k', rfl, hr', hpk', hb', -⟩
          exact ⟨_, rfl, ⟨EqV.no rfl, fun _ => ⟨p', k', rfl, hr', hpk'⟩, fun h => absurd h (by decide)⟩, NtJ.of n11 (by decide) (hb.trans (hb'.mono hb.size)), fun k u _ h => h.keep fun q hq => hq.below hb'⟩
        · have n11 : L' 11 = false := by
            cases h : L' 11 with
            | false => rfl
            | true => exact absurd (hC.path [11, 10] (by kernel_rfl) 11 rfl h 10 rfl) (by simp [hL])
          have hb := hJ.no n11
          have hx := (hb.block w.heap.size HLT.out).trans HK2.out
          have hxT := HT2.out.below hb
          have d32 := hD.out 7 32 (by simp [hdep]) rfl
          rw [(hV 7 (by simp [hdep])).val rfl] at d32
          have d34 := hD.out 9 34 (by simp [hdep]) rfl
          obtain ⟨p', k', he, hr', hpk'⟩ := (hV 9 (by simp [hdep])).2.1 rfl
          rw [he, HREP.out.1 p' k'] at d34
          rw [Array.getD_eq_getD_getElem?] at d32 d34
          exact step_run rfl (v := .agg #[.int .i64 s, .int .i64 c, .int .i64 s, .int .i64 er, .bool fd, .string v, .slice p' n k', .string nx, .bool mr]) (w' := x) (by go_simp) ⟨⟨EqV.no rfl, fun h => absurd h (by decide), fun _ => ⟨p', k', (HREP.out.2 p' k').symm, hr', hpk'⟩⟩, NtJ.of n11 (by decide) hb, fun _ _ _ h => h⟩
        · have hb := hJ.no hL
          have hxT := HT2.out.below hb
          have d28 := hD.out 3 28 (by simp [hdep]) rfl
          rw [(hV 3 (by simp [hdep])).val rfl] at d28
          have d30 := hD.out 5 30 (by simp [hdep]) rfl
          rw [(hV 5 (by simp [hdep])).val rfl] at d30
          have d35 := hD.out 10 35 (by simp [hdep]) rfl
          obtain ⟨p', k', he, hr', hpk'⟩ := (hV 10 (by simp [hdep])).2.2 rfl
          rw [he, HREP.out.2 p' k'] at d35
          obtain ⟨b', hb', him⟩ : ∃ b', some b = some b' ∧ IM x b' L := by
            rcases hxT.m with ⟨h, _⟩ | h
            · cases h
            · exact h
          obtain rfl : b = b' := Option.some.inj hb'
          obtain ⟨x', hrun, him', hg⟩ := him.store Try.underlying3 Try.underlying56 (by have := HX2.out.2.1.2; unfold maxLen; omega) ⟨R.s, R, p', k'⟩ HX2.out.2.2
          rw [show (ck ⟨R.s, R, p', k'⟩ : Int) = c from HCS.out.1, HREP.out.2 p' k'] at hrun
          have hk : Kept (fun i => i = b) x x' := Kept.grown hg fun g e => by injection e with e; exact e.symm
          have hno : ∀ i, i = b → NoText x i := fun i hi => hi ▸ hxT.m.noText b rfl
          have hTb : T ≠ b := fun e => hxT.noT b rfl e.symm
          refine stepI_skip rfl (w' := x') (by go_simp) ⟨⟨EqV.no rfl, fun h => absurd h (by decide), fun h => absurd h (by decide)⟩, ?_, fun k u _ h => h.keep fun q hq => hq.kept hk hno⟩
          unfold NtJ
          rw [if_pos (by simp [updL])]
          exact ⟨p', k', ⟨(hk.block T hxT.lt hTb).trans hxT.c, Or.inr ⟨b, rfl, him'⟩, fun e he => by
            rcases mem_putK he with rfl | he
            · exact (show EntIn x ⟨R.s, R, p', k'⟩ from ⟨hr', HX2.out.2.1.1, hpk', HX2.out.2.2⟩).kept hk hno
            · exact (hxT.e e he).kept hk hno, fun e he => by
            rcases mem_putK he with rfl | he
            · exact ⟨rfl, HPS.out⟩
            · exact hxT.n e he⟩, (Kept.of_below hb).trans hk fun _ _ e => e⟩
      · intro vals x hJ hV
        unfold NtJ at hJ
        rw [if_pos (by decide)] at hJ
        have HQ := Lib.hid (HG2.out x hJ)
        clear hJ hV
        simp only [putsL, Act.put, List.setIfInBounds_toArray, List.set_cons_zero, List.set_cons_succ]
        go_wp2_with fail
        go_ret
        exact HF.out _ _ HNB.out HQ.out
end Go.Proofs.Ytjlkfoaccllflaa
