/-
  Layer once, the reference: Note.
-/
import Derived.Test.YtjlkfoaccllflaaOnCut
import Derived.StillTailTactics
namespace Go.Proofs.Ytjlkfoaccllflaa
open Go.RowKit Go.Gz

/-- what the reference's Note leaves. -/
def RetNr (w : World) (B O : Nat) (v : Value) (L : List Ent) (x : Ent) (e : Ending) (w' : World) : Prop :=
  e = .returned (.bool (newB L x.r)) ∧ ∃ v', OnAt w' B O v' (noteE L x) ∧ Kept (fun k => k = O ∨ v.ownBlock = some k) w w' ∧ (v'.ownBlock = v.ownBlock ∨ ∀ g, v'.ownBlock = some g → w.heap.size ≤ g)
theorem eqv_upd {vs : List (Option Value)} {L : Nat → Bool} {vals : Nat → Value} {i : Nat} {v : Value} (h : ∀ j, L j = true → EqV vs j (vals j)) (hv : EqV vs i v) : ∀ j, updL L i j = true → EqV vs j (updV vals i v j) := by
  intro j hj
  unfold updL at hj
  unfold updV
  by_cases e : j = i
  · subst e; rw [if_pos rfl]; exact hv
  · rw [if_neg e] at hj ⊢; exact h j hj
/-- the region that puts an entry between others. -/
structure NrI (W : World) (O : Nat) (L : List Ent) (e : Ent) (k : Nat) (L' : Nat → Bool) (vals : Nat → Value) (x : World) : Prop where
  o7 : L' 7 = true → L' 10 = false → OwnE x W.heap.size 39 (vals 7) (L.take k)
  o9 : L' 9 = true → L' 10 = false → ∃ G, vals 9 = .slice (some ⟨G, 0, none⟩) 1 1 ∧ RowE x (some ⟨G, 0, none⟩) [e]
  o10 : L' 10 = true → L' 17 = false → OwnE x W.heap.size 39 (vals 10) (L.take k ++ [e])
  o17 : L' 17 = true → L' 20 = false → OwnE x W.heap.size 39 (vals 17) (L.take k ++ [e] ++ L.drop k)
  bl : L' 20 = false → Below W.heap.size W x
  fin : L' 20 = true → ∃ v', x.heap[O]? = some (.cells #[v'] 28 (0, 0)) ∧ OwnE x W.heap.size 39 v' (L.take k ++ [e] ++ L.drop k) ∧ Kept (fun i => i = O) W x

set_option maxHeartbeats 8000000 in
set_option maxRecDepth 100000 in
theorem noteR_any (w : World) (B O : Nat) (v0 : Value) (L : List Ent) (h : OnAt w B O v0 L) (hL : L.length ≤ 1000) (r : RepL) (p : Option Addr) (cap : Nat) :
    Calls Try.prog 8 #[.pointer (some ⟨O, 0, none⟩), repV r p cap] w (RetNr w B O v0 L ⟨r.s, r, p, cap⟩) := by
  obtain ⟨R, hR⟩ : ∃ R, r = R := ⟨_, rfl⟩
  have HR := Lib.hid hR
  obtain ⟨c, s, er, fd, vx, ls, nx0, mr⟩ := r
  unfold repV
  simp only
  clear hR
  have hc : R.c = c := by rw [← HR.out]
  have hs : R.s = s := by rw [← HR.out]
  generalize hvx : strB vx = v
  generalize hnx : strB nx0 = nx
  obtain ⟨n, hn⟩ : ∃ n, ls.length = n := ⟨_, rfl⟩
  rw [hn]
  have hval : (⟨R.s, R, p, cap⟩ : Ent).val = .agg #[.int .i64 s, .int .i64 c, .int .i64 s, .int .i64 er, .bool fd, .string v, .slice p n cap, .string nx, .bool mr] := by rw [← HR.out, ← hvx, ← hnx, ← hn]; rfl
  have hlist : (⟨R.s, R, p, cap⟩ : Ent).list = [.int .i64 s, .int .i64 c, .int .i64 s, .int .i64 er, .bool fd, .string v, .slice p n cap, .string nx, .bool mr] := by rw [← HR.out, ← hvx, ← hnx, ← hn]; rfl
  have HON := Lib.hid (show ∀ x : World, RowE (x.alloc (.cells #[.int .i64 s, .int .i64 c, .int .i64 s, .int .i64 er, .bool fd, .string v, .slice p n cap, .string nx, .bool mr] 39)) (some ⟨x.heap.size, 0, none⟩) [⟨R.s, R, p, cap⟩] from fun x => by
    refine one_ent (t := 39) (fz := (0, 0)) ?_
    have := new_block x #[.int .i64 s, .int .i64 c, .int .i64 s, .int .i64 er, .bool fd, .string v, .slice p n cap, .string nx, .bool mr] 39
    rw [← HR.out, ← hvx, ← hnx, ← hn] at *
    exact this)
  rw [show (⟨s, ⟨c, s, er, fd, vx, ls, nx0, mr⟩, p, cap⟩ : Ent) = ⟨R.s, R, p, cap⟩ by rw [← HR.out]]
  have HVL := Lib.hid (And.intro hval hlist)
  obtain ⟨W, hW⟩ : ∃ W, w.alloc (.cells #[.int .i64 c, .int .i64 s, .int .i64 er, .bool fd, .string v, .slice p n cap, .string nx, .bool mr] 33) = W := ⟨_, rfl⟩
  have hbw : Below w.heap.size w W := hW ▸ (Below.refl _ _).alloc (Nat.le_refl _) _
  have hz : W.heap.size = w.heap.size + 1 := by rw [← hW]; simp
  have hblk : W.heap[w.heap.size]? = some (.cells #[.int .i64 c, .int .i64 s, .int .i64 er, .bool fd, .string v, .slice p n cap, .string nx, .bool mr] 33 (0, 0)) := hW ▸ new_block _ _ _
  have hT := h.below hbw
  have CA := Lib.hid (at_any W B O v0 L hT (by omega) c)
  have HT := Lib.hid hT
  have HT0 := Lib.hid h
  have HB := Lib.hid hbw
  have HZ := Lib.hid hz
  have HK := Lib.hid hblk
  have HL := Lib.hid hL
  have HCS := Lib.hid (And.intro hc hs)
  have d0 := cell_at hblk 0
  clear h hT hbw hz hblk hL hc hs hvx hnx hn hval hlist HR
  go_enter Try.func8, Try.ntmps8
  go_upto_region 2 with (go_at_call 19; refine CA.out.mono ?_; rintro e w1 ⟨k, rfl, hix, nd, rfl⟩; obtain ⟨fb, hfb⟩ : ∃ fb, decide (k < L.length ∧ ck (L.getD k default) = c) = fb := ⟨_, rfl⟩; rw [hfb]; have HIX := Lib.hid (And.intro hix hfb); clear hix hfb)
  have hT1 := HT.out.drewN nd
  have hk1 : (W.drewN nd).heap[w.heap.size]? = some (.cells #[.int .i64 c, .int .i64 s, .int .i64 er, .bool fd, .string v, .slice p n cap, .string nx, .bool mr] 33 (0, 0)) := HK.out
  have hb1 : Below w.heap.size w (W.drewN nd) := below_drewN HB.out nd
  clear CA d0 hW
  generalize W.drewN nd = w1 at hT1 hk1 hb1 ⊢
  have HT1 := Lib.hid hT1
  have HK1 := Lib.hid hk1
  have HB1 := Lib.hid hb1
  have d1 := cell_at hk1 1
  have HF0 := Lib.hid (show newB L R = false → ∀ w', Below w1.heap.size w1 w' → RetNr w B O v0 L ⟨R.s, R, p, cap⟩ (.returned (.bool false)) w' from fun hn w' hb => by
    refine ⟨by rw [show (⟨R.s, R, p, cap⟩ : Ent).r = R from rfl, hn], v0, ?_, Kept.of_below (hb1.trans (hb.mono hb1.size)), Or.inl rfl⟩
    unfold noteE
    rw [show (⟨R.s, R, p, cap⟩ : Ent).r = R from rfl, hn]
    exact hT1.below hb)
  have HFI := Lib.hid (HIX.out.1.find hT1.ord)
  obtain ⟨pv, d, hv, hmd, hpd, hrw, hpg⟩ := hT1.own.row
  obtain ⟨m, hm⟩ : ∃ m, L.length = m := ⟨_, rfl⟩
  rw [hm] at hv hmd
  have HLM := Lib.hid (And.intro hm HL.out)
  have hmb : (m : Int) ≤ 1000 := by have := HL.out; omega
  have hkm : k ≤ m := by rw [← hm]; exact HIX.out.1.le
  have HKM := Lib.hid (And.intro hkm (And.intro hmd hpd))
  have hpos : (0 : Int) ≤ (k : Int) := by omega
  have HPG := Lib.hid hpg
  have HRW1 := Lib.hid hrw
  have HV0 := Lib.hid hv
  have hc0 := cell_at hT1.c 0
  rw [hv] at hc0
  have HG := Lib.hid (show ∀ x v', newB L R = true → OnAt x B O v' (putK ck ⟨R.s, R, p, cap⟩ L) → Kept (fun k => k = O ∨ v0.ownBlock = some k) w x → (v'.ownBlock = v0.ownBlock ∨ ∀ g, v'.ownBlock = some g → w.heap.size ≤ g) → RetNr w B O v0 L ⟨R.s, R, p, cap⟩ (.returned (.bool true)) x from fun x v' hn ho hk hv' => ⟨by rw [show (⟨R.s, R, p, cap⟩ : Ent).r = R from rfl, hn], v', by
    unfold noteE
    rw [show (⟨R.s, R, p, cap⟩ : Ent).r = R from rfl, hn]
    exact ho, hk, hv'⟩)
  clear hT1 hk1 hb1 hmd hpd hpg hm hkm hrw hv
  by_cases hneg : s < 0
  · have hnegd : decide (s < 0) = true := decide_eq_true hneg
    have hnb : newB L R = false := by
      unfold newB
      rw [HCS.out.2, decide_eq_false (by omega)]
      rfl
    have HN0 := Lib.hid (HF0.out hnb)
    clear hnb
    go_quiet (fail)
    clear hc0 d1
    go_wp2_with fail
    go_ret
    exact HN0.out _ (below_drewN (Below.refl _ _) nq)
  have hnegd : decide (s < 0) = false := decide_eq_false hneg
  cases fb with
  | true =>
    obtain ⟨hkL, hkc⟩ := of_decide_eq_true HIX.out.2
    have hkz : (k : Int) < (m : Int) := by have := HLM.out.1; omega
    obtain ⟨g, hg, hgB, hgl⟩ : ∃ g, pv = some ⟨g, 0, none⟩ ∧ B ≤ g ∧ g < w1.heap.size := by
      cases pv with
      | none => exact absurd (HRW1.out.nil_of) (fun h => by rw [h] at hkL; simp at hkL)
      | some a =>
        obtain ⟨g, rfl, h1, h2⟩ := HPG.out a rfl
        exact ⟨g, rfl, h1, h2⟩
    subst hg
    obtain ⟨pb, po, hpp, -, hce⟩ := ent_cells HRW1.out (Below.refl _ _) hkL
    injection hpp with hpp
    injection hpp with hp1 hp2
    subst hp1 hp2
    have hf : findK ck c L = some (L.getD k default) := by
      have := HFI.out
      rwa [if_pos ⟨hkL, hkc⟩] at this
    obtain ⟨y, hy⟩ : ∃ y, (L.getD k default).s = y := ⟨_, rfl⟩
    have z0 : w1.cell? ⟨g, k * 9, none⟩ = some (.int .i64 y) := by
      have := hce 0 (by decide)
      simp only [Nat.zero_add, Nat.add_zero] at this
      rw [this, ← hy]; rfl
    have HNB := Lib.hid (show newB L R = decide (y < s) from by
      unfold newB
      rw [HCS.out.1, hf, HCS.out.2, decide_eq_true (by omega : 0 ≤ s), ← hy]
      rfl)
    clear hce hf hy
    by_cases hle : s ≤ y
    · have hled : decide (s ≤ y) = true := decide_eq_true hle
      have HN0 := Lib.hid (HF0.out (by rw [HNB.out]; exact decide_eq_false (by omega)))
      go_quiet (fail)
      clear hc0 d1 z0
      go_wp2_with fail
      go_ret
      exact HN0.out _ (below_drewN (Below.refl _ _) nq)
    · have hled : decide (s ≤ y) = false := decide_eq_false hle
      have HNT := Lib.hid (show newB L R = true by rw [HNB.out]; exact decide_eq_true (by omega))
      have HPT := Lib.hid (show putK ck ⟨R.s, R, p, cap⟩ L = L.take k ++ ⟨R.s, R, p, cap⟩ :: L.drop (k + 1) from by
        have h1 : IdxAt ck L (ck ⟨R.s, R, p, cap⟩) k := by
          rw [show (ck ⟨R.s, R, p, cap⟩ : Int) = c from HCS.out.1]; exact HIX.out.1
        rw [h1.put HT1.out.ord, if_pos ⟨hkL, by rw [hkc]; exact HCS.out.1.symm⟩])
      go_quiet (fail)
      have hT2 := HT1.out.drewN nq
      have hk2 : (w1.drewN nq).heap[w.heap.size]? = some (.cells #[.int .i64 c, .int .i64 s, .int .i64 er, .bool fd, .string v, .slice p n cap, .string nx, .bool mr] 33 (0, 0)) := HK1.out
      have hb2 : Below w.heap.size w (w1.drewN nq) := below_drewN HB1.out nq
      have hgl2 : g < (w1.drewN nq).heap.size := hgl
      clear hc0 d1 z0
      generalize w1.drewN nq = w2 at hT2 hk2 hb2 hgl2 ⊢
      have t0 := cell_at hk2 0
      have t1 := cell_at hk2 1
      have t2 := cell_at hk2 2
      have t3 := cell_at hk2 3
      have t4 := cell_at hk2 4
      have t5 := cell_at hk2 5
      have t6 := cell_at hk2 6
      have t7 := cell_at hk2 7
      obtain ⟨W3, hW3⟩ : ∃ W3, w2.alloc (.cells #[.int .i64 s, .int .i64 c, .int .i64 s, .int .i64 er, .bool fd, .string v, .slice p n cap, .string nx, .bool mr] 39) = W3 := ⟨_, rfl⟩
      have hb3 : Below w2.heap.size w2 W3 := hW3 ▸ (Below.refl _ _).alloc (Nat.le_refl _) _
      have hT3 := hT2.below hb3
      have hy3 : W3.heap[w2.heap.size]? = some (.cells #[.int .i64 s, .int .i64 c, .int .i64 s, .int .i64 er, .bool fd, .string v, .slice p n cap, .string nx, .bool mr] 39 (0, 0)) := hW3 ▸ new_block _ _ _
      have HT3 := Lib.hid hT3
      have HY3 := Lib.hid hy3
      have HB3 := Lib.hid (hb2.trans (hb3.mono hb2.size))
      have HW3 := Lib.hid hW3
      clear hT2 hk2 hb2 hW3 hb3 hT3 hy3
      go_upto_region 6 with fail
      rw [HW3.out]
      clear t0 t1 t2 t3 t4 t5 t6 t7
      have c0 := cell_at HT3.out.c 0
      rw [HV0.out] at c0
      have y0 := cell_at HY3.out 0
      have y1 := cell_at HY3.out 1
      have y2 := cell_at HY3.out 2
      have y3 := cell_at HY3.out 3
      have y4 := cell_at HY3.out 4
      have y5 := cell_at HY3.out 5
      have y6 := cell_at HY3.out 6
      have y7 := cell_at HY3.out 7
      have y8 := cell_at HY3.out 8
      go_still_tail 7, mixedOn
      clear c0 y0 y1 y2 y3 y4 y5 y6 y7 y8
      change wpList _ _ _ _ _ W3.drew
      have hT4 := HT3.out.drewN 1
      change OnAt W3.drew _ _ _ _ at hT4
      have hb4 : Below w.heap.size w W3.drew := HB3.out.drew
      rw [HV0.out] at hT4
      generalize W3.drew = w4 at hT4 hb4 ⊢
      have HT4 := Lib.hid hT4
      have HB4 := Lib.hid hb4
      have hcell : ∀ i, i < 9 → (∃ u, w4.cell? ⟨g, k * 9 + i, none⟩ = some u) ∧ w4.frozen? ⟨g, k * 9 + i, none⟩ = false := fun i hi => by
        obtain ⟨_, ⟨h2, _⟩ | ⟨g', cap', cur, he, hg, hh, hc, hm, hs', ht⟩⟩ := hT4.own
        · cases h2
        injection he with he1 he2 he3
        injection he1 with he1
        injection he1 with he1
        subst he1
        exact ⟨⟨cur[k * 9 + i]'(by have := HLM.out.1; omega), by simp [World.cell?, hh]⟩, frozen_at hh _⟩
      obtain ⟨⟨u0, e0⟩, f0⟩ := hcell 0 (by decide)
      obtain ⟨⟨u1, e1⟩, f1⟩ := hcell 1 (by decide)
      obtain ⟨⟨u2, e2⟩, f2⟩ := hcell 2 (by decide)
      obtain ⟨⟨u3, e3⟩, f3⟩ := hcell 3 (by decide)
      obtain ⟨⟨u4, e4⟩, f4⟩ := hcell 4 (by decide)
      obtain ⟨⟨u5, e5⟩, f5⟩ := hcell 5 (by decide)
      obtain ⟨⟨u6, e6⟩, f6⟩ := hcell 6 (by decide)
      obtain ⟨⟨u7, e7⟩, f7⟩ := hcell 7 (by decide)
      obtain ⟨⟨u8, e8⟩, f8⟩ := hcell 8 (by decide)
      simp only [Nat.add_zero] at e0 f0
      clear hT4 hb4 hcell
      go_wp2_with fail
      change bodyPost _ _ _ _ _ (sets w4 g (k * 9) [.int .i64 s, .int .i64 c, .int .i64 s, .int .i64 er, .bool fd, .string v, .slice p n cap, .string nx, .bool mr])
      have hkk := sets_kept g [.int .i64 s, .int .i64 c, .int .i64 s, .int .i64 er, .bool fd, .string v, .slice p n cap, .string nx, .bool mr] (k * 9) w4
      have how := HT4.out.own.write k hkL ⟨R.s, R, p, cap⟩
      rw [HVL.out.2] at how
      have hgO : O ≠ g := fun e => HT4.out.ne (by rw [e]; rfl)
      have hob := (hkk.block O HT4.out.lt hgO).trans HT4.out.c
      generalize sets _ _ _ _ = w5 at hkk how hob ⊢
      have HQ := Lib.hid (HG.out w5 _ HNT.out ⟨hob, HT4.out.b, by rw [HPT.out]; exact how, ord_putK HT4.out.ord⟩ ((Kept.of_below HB4.out).trans hkk fun i _ e => Or.inr (by rw [HV0.out, e]; first | done | rfl)) (Or.inl (by rw [HV0.out]; first | done | rfl)))
      clear hkk how hob
      go_ret
      exact HQ.out
  | false =>
    have hnk := of_decide_eq_false HIX.out.2
    have hf : findK ck c L = none := by
      have := HFI.out
      rwa [if_neg hnk] at this
    have HNT := Lib.hid (show newB L R = true from by
      unfold newB
      rw [HCS.out.1, hf, HCS.out.2, decide_eq_true (by omega : 0 ≤ s)]
      rfl)
    have HPT := Lib.hid (show putK ck ⟨R.s, R, p, cap⟩ L = L.take k ++ [⟨R.s, R, p, cap⟩] ++ L.drop k from by
      have h1 : IdxAt ck L (ck ⟨R.s, R, p, cap⟩) k := by
        rw [show (ck ⟨R.s, R, p, cap⟩ : Int) = c from HCS.out.1]; exact HIX.out.1
      rw [h1.put HT1.out.ord, if_neg (fun h => hnk ⟨h.1, by rw [h.2]; exact HCS.out.1⟩), List.append_assoc]
      rfl)
    clear hf hnk
    go_quiet (fail)
    have hT2 := HT1.out.drewN nq
    have hk2 : (w1.drewN nq).heap[w.heap.size]? = some (.cells #[.int .i64 c, .int .i64 s, .int .i64 er, .bool fd, .string v, .slice p n cap, .string nx, .bool mr] 33 (0, 0)) := HK1.out
    have hb2 : Below w.heap.size w (w1.drewN nq) := below_drewN HB1.out nq
    have hrw2 : RowE (w1.drewN nq) pv L := HRW1.out.below (below_drewN (Below.refl _ _) nq)
    clear hc0 d1
    generalize w1.drewN nq = w2 at hT2 hk2 hb2 hrw2 ⊢
    have t0 := cell_at hk2 0
    have t1 := cell_at hk2 1
    have t2 := cell_at hk2 2
    have t3 := cell_at hk2 3
    have t4 := cell_at hk2 4
    have t5 := cell_at hk2 5
    have t6 := cell_at hk2 6
    have t7 := cell_at hk2 7
    obtain ⟨W3, hW3⟩ : ∃ W3, w2.alloc (.cells #[.int .i64 s, .int .i64 c, .int .i64 s, .int .i64 er, .bool fd, .string v, .slice p n cap, .string nx, .bool mr] 39) = W3 := ⟨_, rfl⟩
    obtain ⟨T7, hT7⟩ : ∃ T7, w2.heap.size = T7 := ⟨_, rfl⟩
    have hb3 : Below w2.heap.size w2 W3 := hW3 ▸ (Below.refl _ _).alloc (Nat.le_refl _) _
    have hT3 := hT2.below hb3
    have hy3 : W3.heap[w2.heap.size]? = some (.cells #[.int .i64 s, .int .i64 c, .int .i64 s, .int .i64 er, .bool fd, .string v, .slice p n cap, .string nx, .bool mr] 39 (0, 0)) := hW3 ▸ new_block _ _ _
    have hob := hT3.c
    rw [HV0.out] at hob
    have HT7 := Lib.hid (hT7 ▸ hy3)
    have HOB := Lib.hid hob
    have HT3 := Lib.hid hT3
    have HRW := Lib.hid (hrw2.below hb3)
    have HB3 := Lib.hid (hb2.trans (hb3.mono hb2.size))
    have HLT := Lib.hid (show O < W3.heap.size ∧ T7 < W3.heap.size from ⟨hT3.lt, by rw [← hT7]; exact (Array.getElem?_eq_some_iff.1 hy3).1⟩)
    have HW3 := Lib.hid (And.intro hW3 hT7)
    clear hT2 hk2 hb2 hW3 hb3 hT3 hy3 hT7 hob hrw2
    go_upto_region 7 with fail
    rw [HW3.out.1, HW3.out.2]
    clear t0 t1 t2 t3 t4 t5 t6 t7
    have HG7 := Lib.hid (show ∀ x, (∃ v', x.heap[O]? = some (.cells #[v'] 28 (0, 0)) ∧ OwnE x W3.heap.size 39 v' (L.take k ++ [⟨R.s, R, p, cap⟩] ++ L.drop k) ∧ Kept (fun i => i = O) W3 x) → RetNr w B O v0 L ⟨R.s, R, p, cap⟩ (.returned (.bool true)) x from fun x ⟨v', h1, h2, h3⟩ =>
      HG.out x v' HNT.out ⟨h1, HT0.out.b, by rw [HPT.out]; exact h2.mono (by have := HB3.out.size; have := HT0.out.hB; omega), ord_putK HT0.out.ord⟩ ((Kept.of_below HB3.out).trans h3 fun i _ e => Or.inl e) (Or.inr fun g hg => by have := h2.lt g hg; have := HB3.out.size; omega))
    refine wp_region_invC mixedOn (by kernel_rfl) (fun L' vals x => (∀ j, L' j = true → EqV [some (.pointer (some ⟨O, 0, none⟩)), some (.pointer (some ⟨O, 0, none⟩)), some (.pointer (some ⟨O, 0, none⟩)), some (.pointer (some ⟨O, 0, none⟩)), some (.slice pv m d), some (.int .i64 k), some (.slice pv k d), none, some (.agg #[.int .i64 s, .int .i64 c, .int .i64 s, .int .i64 er, .bool fd, .string v, .slice p n cap, .string nx, .bool mr]), none, none, some (.pointer (some ⟨O, 0, none⟩)), some (.pointer (some ⟨O, 0, none⟩)), some (.pointer (some ⟨O, 0, none⟩)), some (.slice pv m d), some (.int .i64 k), some (.slice (ehiP pv d k) (m - k) (d - k)), none, some (.pointer (some ⟨O, 0, none⟩)), some (.pointer (some ⟨O, 0, none⟩)), none] j (vals j)) ∧ NrI W3 O L ⟨R.s, R, p, cap⟩ k L' vals x) ?_ ?_ ?_
    · intro vals
      exact ⟨fun j h => by (cases h), ⟨fun h => by (cases h), fun h => by (cases h), fun h => by (cases h), fun h => by (cases h), fun _ => (Below.refl _ _).drew, fun h => by (cases h)⟩⟩
    · intro i o L' vals x hi hL hdep hC hI
      have hlt : i < 21 := by have := (List.getElem?_eq_some_iff.1 hi).1; simpa using this
      generalize hA : frA _ _ L' vals = a'
      have hT0 : a'.tmps.getD 0 undef = (.pointer (some ⟨O, 0, none⟩)) := by rw [← hA, frA_base (by kernel_rfl)]; rfl
      have hT5 : a'.tmps.getD 5 undef = (.int .i64 k) := by rw [← hA, frA_base (by kernel_rfl)]; rfl
      have hT7 : a'.tmps.getD 7 undef = (.pointer (some ⟨T7, 0, none⟩)) := by rw [← hA, frA_base (by kernel_rfl)]; rfl
      have hD := Lib.hid (fun k t (hk : L' k = true) (ht : dstOf _ k = some t) => hA ▸ frA_done (by kernel_rfl) (vals := vals) hk ht)
      clear hA
      obtain rfl | rfl | rfl | rfl | rfl | rfl | rfl | rfl | rfl | rfl | rfl | rfl | rfl | rfl | rfl | rfl | rfl | rfl | rfl | rfl | rfl : i = 0 ∨ i = 1 ∨ i = 2 ∨ i = 3 ∨ i = 4 ∨ i = 5 ∨ i = 6 ∨ i = 7 ∨ i = 8 ∨ i = 9 ∨ i = 10 ∨ i = 11 ∨ i = 12 ∨ i = 13 ∨ i = 14 ∨ i = 15 ∨ i = 16 ∨ i = 17 ∨ i = 18 ∨ i = 19 ∨ i = 20 := by omega
      all_goals
        injection hi with hi
        subst hi
        try simp [Region.binds] at hdep
      · have n20 : L' 20 = false := by
          cases h : L' 20 with
          | false => rfl
          | true => exact absurd (hC.path [20, 19, 18, 0] (by kernel_rfl) 20 rfl h 0 rfl) (by simp [hL])
        have hb := hI.2.bl n20
        have hx := (hb.block O HLT.out.1).trans HOB.out
        exact step_run rfl (v := (.pointer (some ⟨O, 0, none⟩))) (w' := x) (by go_simp) ⟨eqv_upd hI.1 (EqV.self rfl), ⟨hI.2.o7, hI.2.o9, hI.2.o10, hI.2.o17, fun _ => hb, fun h => absurd h (by simp [updL, n20])⟩⟩
      · have n20 : L' 20 = false := by
          cases h : L' 20 with
          | false => rfl
          | true => exact absurd (hC.path [20, 17, 10, 7, 6, 4, 3, 2, 1] (by kernel_rfl) 20 rfl h 1 rfl) (by simp [hL])
        have hb := hI.2.bl n20
        have hx := (hb.block O HLT.out.1).trans HOB.out
        exact step_run rfl (v := (.pointer (some ⟨O, 0, none⟩))) (w' := x) (by go_simp) ⟨eqv_upd hI.1 (EqV.self rfl), ⟨hI.2.o7, hI.2.o9, hI.2.o10, hI.2.o17, fun _ => hb, fun h => absurd h (by simp [updL, n20])⟩⟩
      · have n20 : L' 20 = false := by
          cases h : L' 20 with
          | false => rfl
          | true => exact absurd (hC.path [20, 17, 10, 7, 6, 4, 3, 2] (by kernel_rfl) 20 rfl h 2 rfl) (by simp [hL])
        have d47 := hD.out 1 47 (by simp [hdep]) rfl
        rw [(hI.1 1 (by simp [hdep])).of rfl] at d47
        have hb := hI.2.bl n20
        have hx := (hb.block O HLT.out.1).trans HOB.out
        exact step_run rfl (v := (.pointer (some ⟨O, 0, none⟩))) (w' := x) (by go_simp) ⟨eqv_upd hI.1 (EqV.self rfl), ⟨hI.2.o7, hI.2.o9, hI.2.o10, hI.2.o17, fun _ => hb, fun h => absurd h (by simp [updL, n20])⟩⟩
      · have n20 : L' 20 = false := by
          cases h : L' 20 with
          | false => rfl
          | true => exact absurd (hC.path [20, 17, 10, 7, 6, 4, 3] (by kernel_rfl) 20 rfl h 3 rfl) (by simp [hL])
        have d48 := hD.out 2 48 (by simp [hdep]) rfl
        rw [(hI.1 2 (by simp [hdep])).of rfl] at d48
        have hb := hI.2.bl n20
        have hx := (hb.block O HLT.out.1).trans HOB.out
        exact step_run rfl (v := (.pointer (some ⟨O, 0, none⟩))) (w' := x) (by go_simp) ⟨eqv_upd hI.1 (EqV.self rfl), ⟨hI.2.o7, hI.2.o9, hI.2.o10, hI.2.o17, fun _ => hb, fun h => absurd h (by simp [updL, n20])⟩⟩
      · have n20 : L' 20 = false := by
          cases h : L' 20 with
          | false => rfl
          | true => exact absurd (hC.path [20, 17, 10, 7, 6, 4] (by kernel_rfl) 20 rfl h 4 rfl) (by simp [hL])
        have d49 := hD.out 3 49 (by simp [hdep]) rfl
        rw [(hI.1 3 (by simp [hdep])).of rfl] at d49
        have hb := hI.2.bl n20
        have hx := (hb.block O HLT.out.1).trans HOB.out
        have c0 := cell_at hx 0
        exact step_run rfl (v := (.slice pv m d)) (w' := x) (by go_simp) ⟨eqv_upd hI.1 (EqV.self rfl), ⟨hI.2.o7, hI.2.o9, hI.2.o10, hI.2.o17, fun _ => hb, fun h => absurd h (by simp [updL, n20])⟩⟩
      · have n20 : L' 20 = false := by
          cases h : L' 20 with
          | false => rfl
          | true => exact absurd (hC.path [20, 17, 10, 7, 6, 5] (by kernel_rfl) 20 rfl h 5 rfl) (by simp [hL])
        have hb := hI.2.bl n20
        have hx := (hb.block O HLT.out.1).trans HOB.out
        exact step_run rfl (v := (.int .i64 k)) (w' := x) (by go_simp) ⟨eqv_upd hI.1 (EqV.self rfl), ⟨hI.2.o7, hI.2.o9, hI.2.o10, hI.2.o17, fun _ => hb, fun h => absurd h (by simp [updL, n20])⟩⟩
      · have n20 : L' 20 = false := by
          cases h : L' 20 with
          | false => rfl
          | true => exact absurd (hC.path [20, 17, 10, 7, 6] (by kernel_rfl) 20 rfl h 6 rfl) (by simp [hL])
        have d50 := hD.out 4 50 (by simp [hdep]) rfl
        rw [(hI.1 4 (by simp [hdep])).of rfl] at d50
        have d51 := hD.out 5 51 (by simp [hdep]) rfl
        rw [(hI.1 5 (by simp [hdep])).of rfl] at d51
        have hb := hI.2.bl n20
        have hx := (hb.block O HLT.out.1).trans HOB.out
        exact step_run rfl (v := (.slice pv k d)) (w' := x) (eslice_lo pv m d k HKM.out.1 HKM.out.2.1 HKM.out.2.2 _ _ _ 50 51 rfl d50 d51) ⟨eqv_upd hI.1 (EqV.self rfl), ⟨hI.2.o7, hI.2.o9, hI.2.o10, hI.2.o17, fun _ => hb, fun h => absurd h (by simp [updL, n20])⟩⟩
      · have n20 : L' 20 = false := by
          cases h : L' 20 with
          | false => rfl
          | true => exact absurd (hC.path [20, 17, 10, 7] (by kernel_rfl) 20 rfl h 7 rfl) (by simp [hL])
        have n17 : L' 17 = false := by
          cases h : L' 17 with
          | false => rfl
          | true => exact absurd (hC.path [17, 10, 7] (by kernel_rfl) 17 rfl h 7 rfl) (by simp [hL])
        have d52 := hD.out 6 52 (by simp [hdep]) rfl
        rw [(hI.1 6 (by simp [hdep])).of rfl] at d52
        have hb := hI.2.bl n20
        have hx := (hb.block O HLT.out.1).trans HOB.out
        have n10 : L' 10 = false := by
          cases h : L' 10 with
          | false => rfl
          | true => exact absurd (hC.path [10, 7] (by kernel_rfl) 10 rfl h 7 rfl) (by simp [hL])
        have hlk : (L.take k).length = k := by rw [List.length_take]; have := HKM.out.1; have := HLM.out.1; omega
        refine stepI_app_ents ent_ref rfl (.const (.slice none 0 0)) (.tmp 52) rfl rfl (OwnE.nil x W3.heap.size 39) pv d (L.take k) (by rw [hlk]; exact d52) ((HRW.out.below hb).take k) HKM.out.2.2 (by rw [hlk]; have := HKM.out.1; have := HLM.out.2; simp; omega) hb.size ?_
        intro v' x' ho' hg' _
        have hbx : Below x.heap.size x x' := (Below.refl _ _).grown hg' (Nat.le_refl _) (fun g hg => by cases hg)
        exact ⟨eqv_upd hI.1 (EqV.no rfl), ⟨fun _ _ => ho', fun h9 h10 => by obtain ⟨G, h1, h2⟩ := hI.2.o9 h9 h10; exact ⟨G, h1, h2.below hbx⟩, fun h => absurd h (by simp [updL, n10]), fun h => absurd h (by simp [updL, n17]), fun _ => hb.trans (hbx.mono hb.size), fun h => absurd h (by simp [updL, n20])⟩⟩
      · have n20 : L' 20 = false := by
          cases h : L' 20 with
          | false => rfl
          | true => exact absurd (hC.path [20, 17, 10, 9, 8] (by kernel_rfl) 20 rfl h 8 rfl) (by simp [hL])
        have hb := hI.2.bl n20
        have hx := (hb.block O HLT.out.1).trans HOB.out
        have hy := (hb.block T7 HLT.out.2).trans HT7.out
        have c0 := cell_at hy 0
        have c1 := cell_at hy 1
        have c2 := cell_at hy 2
        have c3 := cell_at hy 3
        have c4 := cell_at hy 4
        have c5 := cell_at hy 5
        have c6 := cell_at hy 6
        have c7 := cell_at hy 7
        have c8 := cell_at hy 8
        exact step_run rfl (v := (.agg #[.int .i64 s, .int .i64 c, .int .i64 s, .int .i64 er, .bool fd, .string v, .slice p n cap, .string nx, .bool mr])) (w' := x) (by go_simp) ⟨eqv_upd hI.1 (EqV.self rfl), ⟨hI.2.o7, hI.2.o9, hI.2.o10, hI.2.o17, fun _ => hb, fun h => absurd h (by simp [updL, n20])⟩⟩
      · have n20 : L' 20 = false := by
          cases h : L' 20 with
          | false => rfl
          | true => exact absurd (hC.path [20, 17, 10, 9] (by kernel_rfl) 20 rfl h 9 rfl) (by simp [hL])
        have n17 : L' 17 = false := by
          cases h : L' 17 with
          | false => rfl
          | true => exact absurd (hC.path [17, 10, 9] (by kernel_rfl) 17 rfl h 9 rfl) (by simp [hL])
        have d54 := hD.out 8 54 (by simp [hdep]) rfl
        rw [(hI.1 8 (by simp [hdep])).of rfl] at d54
        have hb := hI.2.bl n20
        have hx := (hb.block O HLT.out.1).trans HOB.out
        have n10 : L' 10 = false := by
          cases h : L' 10 with
          | false => rfl
          | true => exact absurd (hC.path [10, 9] (by kernel_rfl) 10 rfl h 9 rfl) (by simp [hL])
        rw [Array.getD_eq_getD_getElem?] at d54
        have hal : Below x.heap.size x (x.alloc (.cells #[.int .i64 s, .int .i64 c, .int .i64 s, .int .i64 er, .bool fd, .string v, .slice p n cap, .string nx, .bool mr] 39)) := (Below.refl _ _).alloc (Nat.le_refl _) _
        exact step_run rfl (v := .slice (some ⟨x.heap.size, 0, none⟩) 1 1) (w' := x.alloc (.cells #[.int .i64 s, .int .i64 c, .int .i64 s, .int .i64 er, .bool fd, .string v, .slice p n cap, .string nx, .bool mr] 39)) (by go_simp) ⟨eqv_upd hI.1 (EqV.no rfl), ⟨fun h7 h10 => (hI.2.o7 h7 h10).below hal, fun _ _ => ⟨_, rfl, HON.out x⟩, fun h => absurd h (by simp [updL, n10]), fun h => absurd h (by simp [updL, n17]), fun _ => hb.trans (hal.mono hb.size), fun h => absurd h (by simp [updL, n20])⟩⟩
      · have n20 : L' 20 = false := by
          cases h : L' 20 with
          | false => rfl
          | true => exact absurd (hC.path [20, 17, 10] (by kernel_rfl) 20 rfl h 10 rfl) (by simp [hL])
        have n17 : L' 17 = false := by
          cases h : L' 17 with
          | false => rfl
          | true => exact absurd (hC.path [17, 10] (by kernel_rfl) 17 rfl h 10 rfl) (by simp [hL])
        have d53 := hD.out 7 53 (by simp [hdep]) rfl
        have d55 := hD.out 9 55 (by simp [hdep]) rfl
        have hb := hI.2.bl n20
        have hx := (hb.block O HLT.out.1).trans HOB.out
        obtain ⟨G, h91, h92⟩ := hI.2.o9 (by simp [hdep]) hL
        have ho7 := hI.2.o7 (by simp [hdep]) hL
        rw [h91] at d55
        have hlk : (L.take k).length = k := by rw [List.length_take]; have := HKM.out.1; have := HLM.out.1; omega
        refine stepI_app_ents ent_ref rfl (.tmp 53) (.tmp 55) rfl d53 ho7 (some ⟨G, 0, none⟩) 1 [⟨R.s, R, p, cap⟩] d55 h92 (fun h => by cases h) (by rw [hlk]; have := HKM.out.1; have := HLM.out.2; simp; omega) hb.size ?_
        intro v' x' ho' hg' _
        exact ⟨eqv_upd hI.1 (EqV.no rfl), ⟨fun _ h => absurd h (by simp [updL]), fun _ h => absurd h (by simp [updL]), fun _ _ => ho', fun h => absurd h (by simp [updL, n17]), fun _ => hb.grown hg' hb.size (fun g hg => ho7.lt g hg), fun h => absurd h (by simp [updL, n20])⟩⟩
      · have n20 : L' 20 = false := by
          cases h : L' 20 with
          | false => rfl
          | true => exact absurd (hC.path [20, 17, 16, 14, 13, 12, 11] (by kernel_rfl) 20 rfl h 11 rfl) (by simp [hL])
        have hb := hI.2.bl n20
        have hx := (hb.block O HLT.out.1).trans HOB.out
        exact step_run rfl (v := (.pointer (some ⟨O, 0, none⟩))) (w' := x) (by go_simp) ⟨eqv_upd hI.1 (EqV.self rfl), ⟨hI.2.o7, hI.2.o9, hI.2.o10, hI.2.o17, fun _ => hb, fun h => absurd h (by simp [updL, n20])⟩⟩
      · have n20 : L' 20 = false := by
          cases h : L' 20 with
          | false => rfl
          | true => exact absurd (hC.path [20, 17, 16, 14, 13, 12] (by kernel_rfl) 20 rfl h 12 rfl) (by simp [hL])
        have d57 := hD.out 11 57 (by simp [hdep]) rfl
        rw [(hI.1 11 (by simp [hdep])).of rfl] at d57
        have hb := hI.2.bl n20
        have hx := (hb.block O HLT.out.1).trans HOB.out
        exact step_run rfl (v := (.pointer (some ⟨O, 0, none⟩))) (w' := x) (by go_simp) ⟨eqv_upd hI.1 (EqV.self rfl), ⟨hI.2.o7, hI.2.o9, hI.2.o10, hI.2.o17, fun _ => hb, fun h => absurd h (by simp [updL, n20])⟩⟩
      · have n20 : L' 20 = false := by
          cases h : L' 20 with
          | false => rfl
          | true => exact absurd (hC.path [20, 17, 16, 14, 13] (by kernel_rfl) 20 rfl h 13 rfl) (by simp [hL])
        have d58 := hD.out 12 58 (by simp [hdep]) rfl
        rw [(hI.1 12 (by simp [hdep])).of rfl] at d58
        have hb := hI.2.bl n20
        have hx := (hb.block O HLT.out.1).trans HOB.out
        exact step_run rfl (v := (.pointer (some ⟨O, 0, none⟩))) (w' := x) (by go_simp) ⟨eqv_upd hI.1 (EqV.self rfl), ⟨hI.2.o7, hI.2.o9, hI.2.o10, hI.2.o17, fun _ => hb, fun h => absurd h (by simp [updL, n20])⟩⟩
      · have n20 : L' 20 = false := by
          cases h : L' 20 with
          | false => rfl
          | true => exact absurd (hC.path [20, 17, 16, 14] (by kernel_rfl) 20 rfl h 14 rfl) (by simp [hL])
        have d59 := hD.out 13 59 (by simp [hdep]) rfl
        rw [(hI.1 13 (by simp [hdep])).of rfl] at d59
        have hb := hI.2.bl n20
        have hx := (hb.block O HLT.out.1).trans HOB.out
        have c0 := cell_at hx 0
        exact step_run rfl (v := (.slice pv m d)) (w' := x) (by go_simp) ⟨eqv_upd hI.1 (EqV.self rfl), ⟨hI.2.o7, hI.2.o9, hI.2.o10, hI.2.o17, fun _ => hb, fun h => absurd h (by simp [updL, n20])⟩⟩
      · have n20 : L' 20 = false := by
          cases h : L' 20 with
          | false => rfl
          | true => exact absurd (hC.path [20, 17, 16, 15] (by kernel_rfl) 20 rfl h 15 rfl) (by simp [hL])
        have hb := hI.2.bl n20
        have hx := (hb.block O HLT.out.1).trans HOB.out
        exact step_run rfl (v := (.int .i64 k)) (w' := x) (by go_simp) ⟨eqv_upd hI.1 (EqV.self rfl), ⟨hI.2.o7, hI.2.o9, hI.2.o10, hI.2.o17, fun _ => hb, fun h => absurd h (by simp [updL, n20])⟩⟩
      · have n20 : L' 20 = false := by
          cases h : L' 20 with
          | false => rfl
          | true => exact absurd (hC.path [20, 17, 16] (by kernel_rfl) 20 rfl h 16 rfl) (by simp [hL])
        have d60 := hD.out 14 60 (by simp [hdep]) rfl
        rw [(hI.1 14 (by simp [hdep])).of rfl] at d60
        have d61 := hD.out 15 61 (by simp [hdep]) rfl
        rw [(hI.1 15 (by simp [hdep])).of rfl] at d61
        have hb := hI.2.bl n20
        have hx := (hb.block O HLT.out.1).trans HOB.out
        exact step_run rfl (v := (.slice (ehiP pv d k) (m - k) (d - k))) (w' := x) (eslice_hi pv m d k HKM.out.1 HKM.out.2.1 HKM.out.2.2 _ _ _ 60 61 rfl d60 d61) ⟨eqv_upd hI.1 (EqV.self rfl), ⟨hI.2.o7, hI.2.o9, hI.2.o10, hI.2.o17, fun _ => hb, fun h => absurd h (by simp [updL, n20])⟩⟩
      · have n20 : L' 20 = false := by
          cases h : L' 20 with
          | false => rfl
          | true => exact absurd (hC.path [20, 17] (by kernel_rfl) 20 rfl h 17 rfl) (by simp [hL])
        have d56 := hD.out 10 56 (by simp [hdep]) rfl
        have d62 := hD.out 16 62 (by simp [hdep]) rfl
        rw [(hI.1 16 (by simp [hdep])).of rfl] at d62
        have hb := hI.2.bl n20
        have hx := (hb.block O HLT.out.1).trans HOB.out
        have ho10 := hI.2.o10 (by simp [hdep]) hL
        have hld : (L.drop k).length = m - k := by rw [List.length_drop]; have := HLM.out.1; omega
        have h10 : L' 10 = true := by simp [hdep]
        refine stepI_app_ents ent_ref rfl (.tmp 56) (.tmp 62) rfl d56 ho10 (ehiP pv d k) (d - k) (L.drop k) (by rw [hld]; exact d62) (row_hi (HRW.out.below hb) (by have := HKM.out.2.1; have := HLM.out.1; omega)) (fun h => by have := HKM.out.2.2; cases pv with | none => have := this rfl; omega | some a => cases h) (by rw [hld]; have := HKM.out.1; have := HLM.out.1; have := HLM.out.2; simp; omega) hb.size ?_
        intro v' x' ho' hg' _
        exact ⟨eqv_upd hI.1 (EqV.no rfl), ⟨fun _ h => absurd h (by simp [updL, h10]), fun _ h => absurd h (by simp [updL, h10]), fun _ h => absurd h (by simp [updL]), fun _ _ => ho', fun _ => hb.grown hg' hb.size (fun g hg => ho10.lt g hg), fun h => absurd h (by simp [updL, n20])⟩⟩
      · have n20 : L' 20 = false := by
          cases h : L' 20 with
          | false => rfl
          | true => exact absurd (hC.path [20, 19, 18] (by kernel_rfl) 20 rfl h 18 rfl) (by simp [hL])
        have d46 := hD.out 0 46 (by simp [hdep]) rfl
        rw [(hI.1 0 (by simp [hdep])).of rfl] at d46
        have hb := hI.2.bl n20
        have hx := (hb.block O HLT.out.1).trans HOB.out
        exact step_run rfl (v := (.pointer (some ⟨O, 0, none⟩))) (w' := x) (by go_simp) ⟨eqv_upd hI.1 (EqV.self rfl), ⟨hI.2.o7, hI.2.o9, hI.2.o10, hI.2.o17, fun _ => hb, fun h => absurd h (by simp [updL, n20])⟩⟩
      · have n20 : L' 20 = false := by
          cases h : L' 20 with
          | false => rfl
          | true => exact absurd (hC.path [20, 19] (by kernel_rfl) 20 rfl h 19 rfl) (by simp [hL])
        have d64 := hD.out 18 64 (by simp [hdep]) rfl
        rw [(hI.1 18 (by simp [hdep])).of rfl] at d64
        have hb := hI.2.bl n20
        have hx := (hb.block O HLT.out.1).trans HOB.out
        exact step_run rfl (v := (.pointer (some ⟨O, 0, none⟩))) (w' := x) (by go_simp) ⟨eqv_upd hI.1 (EqV.self rfl), ⟨hI.2.o7, hI.2.o9, hI.2.o10, hI.2.o17, fun _ => hb, fun h => absurd h (by simp [updL, n20])⟩⟩
      · have d65 := hD.out 19 65 (by simp [hdep]) rfl
        rw [(hI.1 19 (by simp [hdep])).of rfl] at d65
        have d63 := hD.out 17 63 (by simp [hdep]) rfl
        have hb := hI.2.bl hL
        have h17 : L' 17 = true := by simp [hdep]
        have h10 : L' 10 = true := hC.path [17, 10] (by kernel_rfl) 17 rfl h17 10 rfl
        have ho := hI.2.o17 h17 hL
        have hx := (hb.block O HLT.out.1).trans HOB.out
        have c0 := cell_at hx 0
        have f0 := frozen_at hx 0
        obtain ⟨q', d', hq, -⟩ := ho.row
        refine stepI_skip rfl (w' := x.setCell ⟨O, 0, none⟩ (vals 17)) (by rw [hq] at d63 ⊢; go_simp) ⟨eqv_upd hI.1 (EqV.no rfl), ⟨fun _ h => absurd h (by simp [updL, h10]), fun _ h => absurd h (by simp [updL, h10]), fun _ h => absurd h (by simp [updL, h17]), fun _ h => absurd h (by simp [updL]), fun h => absurd h (by simp [updL]), fun _ => ⟨vals 17, set_block hx 0 _, ?_, (Kept.of_below hb).trans (Kept.set (F := fun i => i = O) (vals 17) rfl) fun _ _ e => e⟩⟩⟩
        exact ho.kept (Kept.set (F := fun i => i = O) (vals 17) rfl) (fun g hg e => by have := ho.lt g hg; have := HLT.out.1; omega)
    · intro vals x hI
      have HQ := Lib.hid (HG7.out x (hI.2.fin rfl))
      clear hI
      simp only [putsL, Act.put, List.setIfInBounds_toArray, List.set_cons_zero, List.set_cons_succ]
      go_wp2_with fail
      go_ret
      exact HQ.out
end Go.Proofs.Ytjlkfoaccllflaa
