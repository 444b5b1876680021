/-
  SpanMeets: the walk.
-/
import Derived.Test.YtafmglnjheeajaaSpAwake
import Derived.Test.YtafmglnjheeajaaRegInv
import Derived.Test.YtafmglnjheeajaaSpMath2
import Derived.Test.YtafmglnjheeajaaSpArgs
import Derived.Deep.DeepCutAuto
namespace Go.Proofs.Ytafmglnjheeajaa
open Go.RowKit Go.Gz

theorem few_three (f t f' t' f2 t2 : ByteArray) (w : World) : Calls Try.prog 8 #[.slice (some ⟨w.heap.size, 0, none⟩) 3 3] (w.alloc (.cells #[.string f, .string t, .string f', .string t', .string f2, .string t2] 23)) (FewP [⟨f, t⟩, ⟨f', t'⟩, ⟨f2, t2⟩] (w.alloc (.cells #[.string f, .string t, .string f', .string t', .string f2, .string t2] 23))) :=
  few_any [⟨f, t⟩, ⟨f', t'⟩, ⟨f2, t2⟩] (some ⟨w.heap.size, 0, none⟩) 3 _ (spans_lit w 23 [⟨f, t⟩, ⟨f', t'⟩, ⟨f2, t2⟩]) (by simp)

/-- three boxed spans. -/
def Three (W : World) (b : Nat) (f t f' t' f2 t2 : ByteArray) : Prop := One W b f t ∧ One W (b + 1) f' t' ∧ One W (b + 1 + 1) f2 t2
theorem Three.below {W w : World} {b : Nat} {f t f' t' f2 t2 : ByteArray} (h : Three W b f t f' t' f2 t2) (hb : Below W.heap.size W w) : Three w b f t f' t' f2 t2 := ⟨h.1.below hb, h.2.1.below hb, h.2.2.below hb⟩
theorem Three.new (w : World) (f t f' t' f2 t2 : ByteArray) : Three (((w.alloc (.cells #[.string f, .string t] 23)).alloc (.cells #[.string f', .string t'] 23)).alloc (.cells #[.string f2, .string t2] 23)) w.heap.size f t f' t' f2 t2 :=
  ⟨⟨by simp; omega, by simp [go_sem], by simp [go_sem]⟩, ⟨by simp, by simp [go_sem], by simp [go_sem]⟩, ⟨by simp, by simp [go_sem], by simp [go_sem]⟩⟩

/-- v points to a block of the region's own, which holds m and n if d. -/
def BlkI (w0 : World) (v : Value) (d : Bool) (m n : ByteArray) (w : World) : Prop := ∃ b x y, v = .pointer (some ⟨b, 0, none⟩) ∧ w0.heap.size ≤ b ∧ w.heap[b]? = some (.cells #[x, y] 23 (0, 0)) ∧ (d = true → x = .string m ∧ y = .string n)
theorem BlkI.below {w0 w w' : World} {v : Value} {d : Bool} {m n : ByteArray} (h : BlkI w0 v d m n w) (hb : Below w.heap.size w w') : BlkI w0 v d m n w' := by
  obtain ⟨b, x, y, h1, h2, h3, h4⟩ := h
  exact ⟨b, x, y, h1, h2, by rw [hb.block b (Array.getElem?_eq_some_iff.1 h3).1]; exact h3, h4⟩
theorem BlkI.new {w0 w : World} (hs : w0.heap.size ≤ w.heap.size) (x y : Value) (m n : ByteArray) : BlkI w0 (.pointer (some ⟨w.heap.size, 0, none⟩)) false m n (w.alloc (.cells #[x, y] 23)) :=
  ⟨w.heap.size, x, y, rfl, hs, by show (w.heap.push _)[w.heap.size]? = _; simp, fun h => by cases h⟩
theorem set_two {w : World} {b : Nat} {x y : Value} (u v : Value) (h : w.heap[b]? = some (.cells #[x, y] 23 (0, 0))) : ((w.setCell ⟨b, 0, none⟩ u).setCell ⟨b, 1, none⟩ v).heap[b]? = some (.cells #[u, v] 23 (0, 0)) := by
  simp only [World.setCell, Array.getElem?_modify, if_true, h, Option.map_some]
  rfl
theorem set_other {w : World} {b b' : Nat} (u v : Value) (h : b' ≠ b) : ((w.setCell ⟨b, 0, none⟩ u).setCell ⟨b, 1, none⟩ v).heap[b']? = w.heap[b']? := by
  rw [Below.heap_setCell _ _ _ _ h, Below.heap_setCell _ _ _ _ h]
theorem BlkI.store {w0 w : World} {v v' : Value} {b : Nat} {d : Bool} {m n : ByteArray} (h : BlkI w0 v' d m n w) (x y : Value) (hv : v = .pointer (some ⟨b, 0, none⟩)) (hne : v ≠ v') : BlkI w0 v' d m n ((w.setCell ⟨b, 0, none⟩ x).setCell ⟨b, 1, none⟩ y) := by
  obtain ⟨b', x', y', h1, h2, h3, h4⟩ := h
  refine ⟨b', x', y', h1, h2, ?_, h4⟩
  rw [set_other _ _ (fun e => hne (by rw [hv, h1, e]))]
  exact h3
theorem strs_lit (w : World) (t : TypeId) (xs : List ByteArray) {j : Nat} (hj : j < xs.length) : (w.alloc (.cells (xs.map Value.string).toArray t)).cell? ⟨w.heap.size, j, none⟩ = some (.string (xs.getD j ByteArray.empty)) := by
  rw [World.cell?_alloc_new]
  simp [List.getD, hj]
/-- what holds in the region that lays x and y, whatever has run. -/
structure MeetsI (w0 : World) (v1 v2 v3 v4 v5 : Value) (m1 n1 m2 n2 : ByteArray) (L : Nat → Bool) (vals : Nat → Value) (w : World) : Prop where
  bel : Below w0.heap.size w0 w
  i0 : L 0 = true → vals 0 = v1
  i1 : L 1 = true → vals 1 = v2
  i3 : L 3 = true → vals 3 = v3
  i5 : L 5 = true → vals 5 = v1
  i6 : L 6 = true → vals 6 = v3
  i7 : L 7 = true → vals 7 = v2
  i2 : L 2 = true → vals 2 = v4
  i8 : L 8 = true → vals 8 = v5
  i4 : L 4 = true → vals 4 = .agg #[.string m1, .string n1]
  i9 : L 9 = true → vals 9 = .agg #[.string m2, .string n2]
  i10 : L 10 = true → BlkI w0 (vals 10) (L 12) m1 n1 w
  i11 : L 11 = true → BlkI w0 (vals 11) (L 13) m2 n2 w
  ne : L 10 = true → L 11 = true → vals 10 ≠ vals 11
  d12 : L 12 = true → L 10 = true
  d13 : L 13 = true → L 11 = true

set_option maxHeartbeats 8000000 in
set_option maxRecDepth 100000 in
theorem meets_walk (f t f' t' f2 t2 : ByteArray) (W : World) (hf : f.size ≤ 140737488351232) (ht' : t'.size ≤ 140737488351232) : Calls Try.prog 4 #[.agg #[.string f, .string t], .agg #[.string f', .string t'], .agg #[.string f2, .string t2]] W fun e w' => e = .returned (.bool true) ∧ Below W.heap.size W w' := by
  have mx := mixedS
  have C0 := Lib.hid (fun w => awake_true w)
  have HF := Lib.hid hf; clear hf
  have HT' := Lib.hid ht'; clear ht'
  go_enter Try.func4, Try.ntmps4
  go_wp2_with fail
  obtain ⟨w0, hw0⟩ : ∃ w0, ((W.alloc (.cells #[.string f, .string t] 23)).alloc (.cells #[.string f', .string t'] 23)).alloc (.cells #[.string f2, .string t2] 23) = w0 := ⟨_, rfl⟩
  have HB0 := Lib.hid (show Below W.heap.size W w0 from hw0 ▸ (((Below.refl _ _).alloc (Nat.le_refl _) _).alloc (by simp) _).alloc (by simp; omega) _)
  have HT0 := Lib.hid (show Three w0 W.heap.size f t f' t' f2 t2 from hw0 ▸ Three.new W f t f' t' f2 t2)
  rw [hw0]
  clear hw0
  refine (C0.out w0).mono ?_
  rintro e w1 ⟨rfl, hb1⟩
  have HT1 := Lib.hid (HT0.out.below hb1)
  have HB1 := Lib.hid (HB0.out.trans (hb1.mono HB0.out.size))
  obtain ⟨⟨q0, c0, c1⟩, ⟨q1, c2, c3⟩, ⟨q2, c4, c5⟩⟩ := HT1.out
  clear hb1 C0
  have CF := Lib.hid (few_three f t f' t' f2 t2 w1)
  go_wp2_with fail
  refine CF.out.mono ?_
  rintro e w2 ⟨bv, rfl, hbv, hb2⟩
  have hb12 : Below w1.heap.size w1 w2 := ((Below.refl _ _).alloc (Nat.le_refl _) _).trans (hb2.mono (by simp))
  have HT2 := Lib.hid (HT1.out.below hb12)
  have HB2 := Lib.hid (HB1.out.trans (hb12.mono HB1.out.size))
  clear hb2 hb12 hbv c0 c1 c2 c3 c4 c5 q0 q1 q2 CF HT0 HT1
  obtain ⟨⟨q0, c0, c1⟩, ⟨q1, c2, c3⟩, ⟨q2, c4, c5⟩⟩ := HT2.out
  cases bv with
  | false =>
    go_wp2_with fail
    go_ret
    exact ⟨rfl, HB2.out⟩
  | true =>
    have CM1 := Lib.hid (fun w => meet_any f t f' t' w)
    have CM2 := Lib.hid (fun w => meet_any (maxS2 f f') (firstEndS t t') f2 t2 w)
    have CM3 := Lib.hid (fun w => meet_any f2 t2 f' t' w)
    have CM4 := Lib.hid (fun w => meet_any f t (maxS2 f2 f') (firstEndS t2 t') w)
    obtain ⟨m1, hm1⟩ : ∃ m, maxS2 f f' = m := ⟨_, rfl⟩
    obtain ⟨n1, hn1⟩ : ∃ m, firstEndS t t' = m := ⟨_, rfl⟩
    obtain ⟨m3, hm3⟩ : ∃ m, maxS2 f2 f' = m := ⟨_, rfl⟩
    obtain ⟨n3, hn3⟩ : ∃ m, firstEndS t2 t' = m := ⟨_, rfl⟩
    simp only [hm1, hn1] at CM1 CM2
    simp only [hm3, hn3] at CM3 CM4
    obtain ⟨m2, hm2⟩ : ∃ m, maxS2 m1 f2 = m := ⟨_, rfl⟩
    obtain ⟨n2, hn2⟩ : ∃ m, firstEndS n1 t2 = m := ⟨_, rfl⟩
    obtain ⟨m4, hm4⟩ : ∃ m, maxS2 f m3 = m := ⟨_, rfl⟩
    obtain ⟨n4, hn4⟩ : ∃ m, firstEndS t n3 = m := ⟨_, rfl⟩
    simp only [hm2, hn2] at CM2
    simp only [hm4, hn4] at CM4
    have HX := Lib.hid (show meetS (meetS ⟨f, t⟩ ⟨f', t'⟩) ⟨f2, t2⟩ = ⟨m2, n2⟩ by unfold meetS; simp only [hm1, hn1, hm2, hn2])
    have HY := Lib.hid (show meetS ⟨f, t⟩ (meetS ⟨f2, t2⟩ ⟨f', t'⟩) = ⟨m4, n4⟩ by unfold meetS; simp only [hm3, hn3, hm4, hn4])
    clear hm1 hm2 hm3 hm4 hn1 hn2 hn3 hn4 c0 c1 c2 c3 c4 c5 q0 q1 q2
    go_wp2_with fail
    refine wp_region_inv mx (by kernel_rfl) (MeetsI w2 (.agg #[.string f, .string t]) (.agg #[.string f', .string t']) (.agg #[.string f2, .string t2]) (.agg #[.string m1, .string n1]) (.agg #[.string m3, .string n3]) m2 n2 m4 n4) ?_ ?_ ?_
    · intro vals
      refine ⟨(Below.refl _ _).drew, ?_, ?_, ?_, ?_, ?_, ?_, ?_, ?_, ?_, ?_, ?_, ?_, ?_, ?_, ?_⟩ <;> (intro h; cases h)
    · intro i o L vals w hi hL hdep hI
      have hlt : i < 14 := by
        have := (List.getElem?_eq_some_iff.1 hi).1
        simpa using this
      generalize hA : frA _ _ L vals = a
      have h3 : a.tmps.getD 3 undef = .pointer (some ⟨W.heap.size, 0, none⟩) := by rw [← hA, frA_base (by kernel_rfl)]; rfl
      have h4 : a.tmps.getD 4 undef = .pointer (some ⟨W.heap.size + 1, 0, none⟩) := by rw [← hA, frA_base (by kernel_rfl)]; rfl
      have h5 : a.tmps.getD 5 undef = .pointer (some ⟨W.heap.size + 1 + 1, 0, none⟩) := by rw [← hA, frA_base (by kernel_rfl)]; rfl
      have hD := Lib.hid (fun k t (hk : L k = true) (ht : dstOf _ k = some t) => hA ▸ frA_done (by kernel_rfl) (vals := vals) hk ht)
      clear hA
      obtain ⟨⟨q0, c0, c1⟩, ⟨q1, c2, c3⟩, ⟨q2, c4, c5⟩⟩ := HT2.out.below hI.bel
      obtain rfl | rfl | rfl | rfl | rfl | rfl | rfl | rfl | rfl | rfl | rfl | rfl | rfl | rfl : i = 0 ∨ i = 1 ∨ i = 2 ∨ i = 3 ∨ i = 4 ∨ i = 5 ∨ i = 6 ∨ i = 7 ∨ i = 8 ∨ i = 9 ∨ i = 10 ∨ i = 11 ∨ i = 12 ∨ i = 13 := by omega
      all_goals
        injection hi with hi
        subst hi
        simp [Region.binds] at hdep
      · exact step_run rfl (v := .agg #[.string f, .string t]) (w' := w) (by go_simp) (by constructor <;> (try simp [updL, updV]) <;> first | exact hI.bel | exact hI.i10 | exact hI.i11 | exact hI.ne | exact hI.d12 | exact hI.d13 | exact hI.i0 | exact hI.i1 | exact hI.i3 | exact hI.i5 | exact hI.i6 | exact hI.i7 | exact hI.i2 | exact hI.i4 | exact hI.i8 | exact hI.i9)
      · exact step_run rfl (v := .agg #[.string f', .string t']) (w' := w) (by go_simp) (by constructor <;> (try simp [updL, updV]) <;> first | exact hI.bel | exact hI.i10 | exact hI.i11 | exact hI.ne | exact hI.d12 | exact hI.d13 | exact hI.i0 | exact hI.i1 | exact hI.i3 | exact hI.i5 | exact hI.i6 | exact hI.i7 | exact hI.i2 | exact hI.i4 | exact hI.i8 | exact hI.i9)
      · have ha := hD.out 0 20 hdep.1 rfl
        have hb := hD.out 1 21 hdep.2 rfl
        rw [hI.i0 hdep.1] at ha
        rw [hI.i1 hdep.2] at hb
        refine step_enter rfl (w' := w) (by go_simp) ((CM1.out w).mono ?_)
        rintro e w' ⟨rfl, hb'⟩
        have hbel := hI.bel.trans (hb'.mono hI.bel.size)
        exact ⟨_, rfl, by constructor <;> (try simp [updL, updV]) <;> first | exact hbel | exact (fun h => (hI.i10 h).below hb') | exact (fun h => (hI.i11 h).below hb') | exact hI.ne | exact hI.d12 | exact hI.d13 | exact hI.i0 | exact hI.i1 | exact hI.i3 | exact hI.i5 | exact hI.i6 | exact hI.i7 | exact hI.i2 | exact hI.i4 | exact hI.i8 | exact hI.i9⟩
      · exact step_run rfl (v := .agg #[.string f2, .string t2]) (w' := w) (by go_simp) (by constructor <;> (try simp [updL, updV]) <;> first | exact hI.bel | exact hI.i10 | exact hI.i11 | exact hI.ne | exact hI.d12 | exact hI.d13 | exact hI.i0 | exact hI.i1 | exact hI.i3 | exact hI.i5 | exact hI.i6 | exact hI.i7 | exact hI.i2 | exact hI.i4 | exact hI.i8 | exact hI.i9)
      · have ha := hD.out 2 22 hdep.1 rfl
        have hb := hD.out 3 23 hdep.2.1 rfl
        rw [hI.i2 hdep.1] at ha
        rw [hI.i3 hdep.2.1] at hb
        refine step_enter rfl (w' := w) (by go_simp) ((CM2.out w).mono ?_)
        rintro e w' ⟨rfl, hb'⟩
        have hbel := hI.bel.trans (hb'.mono hI.bel.size)
        exact ⟨_, rfl, by constructor <;> (try simp [updL, updV]) <;> first | exact hbel | exact (fun h => (hI.i10 h).below hb') | exact (fun h => (hI.i11 h).below hb') | exact hI.ne | exact hI.d12 | exact hI.d13 | exact hI.i0 | exact hI.i1 | exact hI.i3 | exact hI.i5 | exact hI.i6 | exact hI.i7 | exact hI.i2 | exact hI.i4 | exact hI.i8 | exact hI.i9⟩
      · exact step_run rfl (v := .agg #[.string f, .string t]) (w' := w) (by go_simp) (by constructor <;> (try simp [updL, updV]) <;> first | exact hI.bel | exact hI.i10 | exact hI.i11 | exact hI.ne | exact hI.d12 | exact hI.d13 | exact hI.i0 | exact hI.i1 | exact hI.i3 | exact hI.i5 | exact hI.i6 | exact hI.i7 | exact hI.i2 | exact hI.i4 | exact hI.i8 | exact hI.i9)
      · exact step_run rfl (v := .agg #[.string f2, .string t2]) (w' := w) (by go_simp) (by constructor <;> (try simp [updL, updV]) <;> first | exact hI.bel | exact hI.i10 | exact hI.i11 | exact hI.ne | exact hI.d12 | exact hI.d13 | exact hI.i0 | exact hI.i1 | exact hI.i3 | exact hI.i5 | exact hI.i6 | exact hI.i7 | exact hI.i2 | exact hI.i4 | exact hI.i8 | exact hI.i9)
      · exact step_run rfl (v := .agg #[.string f', .string t']) (w' := w) (by go_simp) (by constructor <;> (try simp [updL, updV]) <;> first | exact hI.bel | exact hI.i10 | exact hI.i11 | exact hI.ne | exact hI.d12 | exact hI.d13 | exact hI.i0 | exact hI.i1 | exact hI.i3 | exact hI.i5 | exact hI.i6 | exact hI.i7 | exact hI.i2 | exact hI.i4 | exact hI.i8 | exact hI.i9)
      · have ha := hD.out 6 26 hdep.1 rfl
        have hb := hD.out 7 27 hdep.2.1 rfl
        rw [hI.i6 hdep.1] at ha
        rw [hI.i7 hdep.2.1] at hb
        refine step_enter rfl (w' := w) (by go_simp) ((CM3.out w).mono ?_)
        rintro e w' ⟨rfl, hb'⟩
        have hbel := hI.bel.trans (hb'.mono hI.bel.size)
        exact ⟨_, rfl, by constructor <;> (try simp [updL, updV]) <;> first | exact hbel | exact (fun h => (hI.i10 h).below hb') | exact (fun h => (hI.i11 h).below hb') | exact hI.ne | exact hI.d12 | exact hI.d13 | exact hI.i0 | exact hI.i1 | exact hI.i3 | exact hI.i5 | exact hI.i6 | exact hI.i7 | exact hI.i2 | exact hI.i4 | exact hI.i8 | exact hI.i9⟩
      · have ha := hD.out 5 25 hdep.1 rfl
        have hb := hD.out 8 28 hdep.2 rfl
        rw [hI.i5 hdep.1] at ha
        rw [hI.i8 hdep.2] at hb
        refine step_enter rfl (w' := w) (by go_simp) ((CM4.out w).mono ?_)
        rintro e w' ⟨rfl, hb'⟩
        have hbel := hI.bel.trans (hb'.mono hI.bel.size)
        exact ⟨_, rfl, by constructor <;> (try simp [updL, updV]) <;> first | exact hbel | exact (fun h => (hI.i10 h).below hb') | exact (fun h => (hI.i11 h).below hb') | exact hI.ne | exact hI.d12 | exact hI.d13 | exact hI.i0 | exact hI.i1 | exact hI.i3 | exact hI.i5 | exact hI.i6 | exact hI.i7 | exact hI.i2 | exact hI.i4 | exact hI.i8 | exact hI.i9⟩
      · have hno : L 12 = false := by
          cases h : L 12 with
          | false => rfl
          | true => have := hI.d12 h; rw [hL] at this; cases this
        have hbel := hI.bel.alloc hI.bel.size (.cells #[.string ⟨#[]⟩, .string ⟨#[]⟩] 23)
        have hb' : Below w.heap.size w (w.alloc (.cells #[.string ⟨#[]⟩, .string ⟨#[]⟩] 23)) := (Below.refl _ _).alloc (Nat.le_refl _) _
        refine step_run rfl (v := .pointer (some ⟨w.heap.size, 0, none⟩)) (w' := w.alloc (.cells #[.string ⟨#[]⟩, .string ⟨#[]⟩] 23)) (by go_simp) ?_
        constructor <;> (try simp [updL, updV]) <;> first | exact hbel | (rw [hno]; exact BlkI.new hI.bel.size _ _ _ _) | exact (fun h => (hI.i11 h).below hb') | exact hI.i0 | exact hI.i1 | exact hI.i3 | exact hI.i5 | exact hI.i6 | exact hI.i7 | exact hI.i2 | exact hI.i4 | exact hI.i8 | exact hI.i9 | exact hI.d13 | skip
        intro h11
        obtain ⟨b, x, y, hv, _, hh, _⟩ := hI.i11 h11
        rw [hv]
        intro hc
        injection hc with hc
        injection hc with hc
        injection hc with hc
        have := (Array.getElem?_eq_some_iff.1 hh).1
        omega
      · have hno : L 13 = false := by
          cases h : L 13 with
          | false => rfl
          | true => have := hI.d13 h; rw [hL] at this; cases this
        have hbel := hI.bel.alloc hI.bel.size (.cells #[.string ⟨#[]⟩, .string ⟨#[]⟩] 23)
        have hb' : Below w.heap.size w (w.alloc (.cells #[.string ⟨#[]⟩, .string ⟨#[]⟩] 23)) := (Below.refl _ _).alloc (Nat.le_refl _) _
        refine step_run rfl (v := .pointer (some ⟨w.heap.size, 0, none⟩)) (w' := w.alloc (.cells #[.string ⟨#[]⟩, .string ⟨#[]⟩] 23)) (by go_simp) ?_
        constructor <;> (try simp [updL, updV]) <;> first | exact hbel | (rw [hno]; exact BlkI.new hI.bel.size _ _ _ _) | exact (fun h => (hI.i10 h).below hb') | exact hI.i0 | exact hI.i1 | exact hI.i3 | exact hI.i5 | exact hI.i6 | exact hI.i7 | exact hI.i2 | exact hI.i4 | exact hI.i8 | exact hI.i9 | exact hI.d12 | skip
        intro h10
        obtain ⟨b, x, y, hv, _, hh, _⟩ := hI.i10 h10
        rw [hv]
        intro hc
        injection hc with hc
        injection hc with hc
        injection hc with hc
        have := (Array.getElem?_eq_some_iff.1 hh).1
        omega
      · have h7 := hD.out 10 7 hdep.1 rfl
        have h24 := hD.out 4 24 hdep.2.1 rfl
        rw [hI.i4 hdep.2.1] at h24
        obtain ⟨b, x, y, hv, hbs, hh, _⟩ := hI.i10 hdep.1
        rw [hv] at h7
        have c6 : w.cell? ⟨b, 0, none⟩ = some x := by simp only [World.cell?, hh]; rfl
        have c7 : w.cell? ⟨b, 1, none⟩ = some y := by simp only [World.cell?, hh]; rfl
        have f6 : w.frozen? ⟨b, 0, none⟩ = false := by simp only [World.frozen?, hh]; rfl
        have f7 : w.frozen? ⟨b, 1, none⟩ = false := by simp only [World.frozen?, hh]; rfl
        refine stepI_skip rfl (w' := (w.setCell ⟨b, 0, none⟩ (.string m2)).setCell ⟨b, 1, none⟩ (.string n2)) (by go_simp) ?_
        have hbel := (hI.bel.setCell (p := ⟨b, 0, none⟩) hbs (.string m2)).setCell (p := ⟨b, 1, none⟩) hbs (.string n2)
        have hnew : BlkI w2 (vals 10) true m2 n2 ((w.setCell ⟨b, 0, none⟩ (.string m2)).setCell ⟨b, 1, none⟩ (.string n2)) := ⟨b, _, _, hv, hbs, set_two _ _ hh, fun _ => ⟨rfl, rfl⟩⟩
        have hold := fun h => (hI.i11 h).store (.string m2) (.string n2) hv (hI.ne hdep.1 h)
        constructor <;> (try simp [updL, updV]) <;> first | exact hbel | exact fun _ => hnew | exact hold | exact hI.i0 | exact hI.i1 | exact hI.i3 | exact hI.i5 | exact hI.i6 | exact hI.i7 | exact hI.i2 | exact hI.i4 | exact hI.i8 | exact hI.i9 | exact hI.ne | exact hI.d12 | exact hI.d13 | exact hdep.1
      · have h7 := hD.out 11 8 hdep.1 rfl
        have h24 := hD.out 9 29 hdep.2.1 rfl
        rw [hI.i9 hdep.2.1] at h24
        obtain ⟨b, x, y, hv, hbs, hh, _⟩ := hI.i11 hdep.1
        rw [hv] at h7
        have c6 : w.cell? ⟨b, 0, none⟩ = some x := by simp only [World.cell?, hh]; rfl
        have c7 : w.cell? ⟨b, 1, none⟩ = some y := by simp only [World.cell?, hh]; rfl
        have f6 : w.frozen? ⟨b, 0, none⟩ = false := by simp only [World.frozen?, hh]; rfl
        have f7 : w.frozen? ⟨b, 1, none⟩ = false := by simp only [World.frozen?, hh]; rfl
        refine stepI_skip rfl (w' := (w.setCell ⟨b, 0, none⟩ (.string m4)).setCell ⟨b, 1, none⟩ (.string n4)) (by go_simp) ?_
        have hbel := (hI.bel.setCell (p := ⟨b, 0, none⟩) hbs (.string m4)).setCell (p := ⟨b, 1, none⟩) hbs (.string n4)
        have hnew : BlkI w2 (vals 11) true m4 n4 ((w.setCell ⟨b, 0, none⟩ (.string m4)).setCell ⟨b, 1, none⟩ (.string n4)) := ⟨b, _, _, hv, hbs, set_two _ _ hh, fun _ => ⟨rfl, rfl⟩⟩
        have hold := fun h => (hI.i10 h).store (.string m4) (.string n4) hv (fun e => hI.ne h hdep.1 e.symm)
        constructor <;> (try simp [updL, updV]) <;> first | exact hbel | exact fun _ => hnew | exact hold | exact hI.i0 | exact hI.i1 | exact hI.i3 | exact hI.i5 | exact hI.i6 | exact hI.i7 | exact hI.i2 | exact hI.i4 | exact hI.i8 | exact hI.i9 | exact hI.ne | exact hI.d12 | exact hI.d13 | exact hdep.1
    · intro vals w hI
      obtain ⟨bx, x, y, hv, hbx, hh, hxy⟩ := hI.i10 rfl
      obtain ⟨rfl, rfl⟩ := hxy rfl
      obtain ⟨by', x, y, hv', hby, hh', hxy⟩ := hI.i11 rfl
      obtain ⟨rfl, rfl⟩ := hxy rfl
      have hT := HT2.out.below hI.bel
      have HB3 := Lib.hid (HB2.out.trans (hI.bel.mono HB2.out.size))
      have HX3 := Lib.hid (show One w bx m2 n2 from ⟨(Array.getElem?_eq_some_iff.1 hh).1, by simp only [World.cell?, hh]; rfl, by simp only [World.cell?, hh]; rfl⟩)
      have HY3 := Lib.hid (show One w by' m4 n4 from ⟨(Array.getElem?_eq_some_iff.1 hh').1, by simp only [World.cell?, hh']; rfl, by simp only [World.cell?, hh']; rfl⟩)
      have HT3 := Lib.hid hT
      simp only [putsL, Act.put, List.setIfInBounds_toArray, List.set_cons_zero, List.set_cons_succ, hv, hv', hI.i4 rfl, hI.i9 rfl]
      clear hh hh' hv hv' hI hbx hby hT hxy CM1 CM2 CM3 CM4 HT2 HB2 HB1 HB0
      generalize vals 0 = z0
      generalize vals (0 + 1) = z1
      generalize vals (0 + 1 + 1) = z2
      generalize vals (0 + 1 + 1 + 1) = z3
      generalize vals (0 + 1 + 1 + 1 + 1 + 1) = z5
      generalize vals (0 + 1 + 1 + 1 + 1 + 1 + 1) = z6
      generalize vals (0 + 1 + 1 + 1 + 1 + 1 + 1 + 1) = z7
      generalize vals (0 + 1 + 1 + 1 + 1 + 1 + 1 + 1 + 1) = z8
      obtain ⟨⟨q0, c0, c1⟩, ⟨q1, c2, c3⟩, ⟨q2, c4, c5⟩⟩ := HT3.out
      have a1 := fun w : World => run_string_add_sum (P := Try.prog) (w := w) f ⟨#[0]⟩ (by have := HF.out; show f.size + 1 ≤ _; omega)
      have a2 := fun w : World => run_string_add_sum (P := Try.prog) (w := w) t' ⟨#[120]⟩ (by have := HT'.out; show t'.size + 1 ≤ _; omega)
      obtain ⟨k7, hk7⟩ : ∃ k, f ++ (⟨#[0]⟩ : ByteArray) = k := ⟨_, rfl⟩
      obtain ⟨k8, hk8⟩ : ∃ k, t' ++ (⟨#[120]⟩ : ByteArray) = k := ⟨_, rfl⟩
      simp only [hk7] at a1
      simp only [hk8] at a2
      clear hk7 hk8
      go_wp2_with fail
      have HK := Lib.hid (fun j (hj : j < 10) => strs_lit w 9 [⟨#[]⟩, f, t, f', t', f2, t2, k7, k8, ⟨#[255, 255]⟩] (j := j) hj)
      obtain ⟨K, hK⟩ : ∃ K, ([⟨#[]⟩, f, t, f', t', f2, t2, k7, k8, ⟨#[255, 255]⟩] : List ByteArray) = K := ⟨_, rfl⟩
      obtain ⟨w3, hw3⟩ : ∃ w3, w.alloc (.cells #[.string ⟨#[]⟩, .string f, .string t, .string f', .string t', .string f2, .string t2, .string k7, .string k8, .string ⟨#[255, 255]⟩] 9) = w3 := ⟨_, rfl⟩
      have hb3 : Below w.heap.size w w3 := hw3 ▸ (Below.refl _ _).alloc (Nat.le_refl _) _
      have HG := Lib.hid (show w.heap.size < w3.heap.size by rw [← hw3]; simp)
      have HK3 := Lib.hid (show ∀ j, j < 10 → w3.cell? ⟨w.heap.size, j, none⟩ = some (.string (K.getD j ByteArray.empty)) from fun j hj => by rw [← hw3, ← hK]; exact HK.out j hj)
      have HX4 := Lib.hid (HX3.out.below hb3)
      have HY4 := Lib.hid (HY3.out.below hb3)
      have HT4 := Lib.hid (HT3.out.below hb3)
      have HB4 := Lib.hid (HB3.out.trans (hb3.mono HB3.out.size))
      rw [hw3]
      generalize w.heap.size = g at HG HK3 ⊢
      clear hw3 hK HK hb3 HX3 HY3 HT3 HB3 a1 a2 c0 c1 c2 c3 c4 c5 q0 q1 q2
      go_loopg [10] 10 (fun gg vi wr => ∃ i : Nat, i ≤ 10 ∧ 10 - i ≤ gg ∧ vi = .int .i64 i ∧ Hid (Below w3.heap.size w3 wr))
      case atStart => exact ⟨0, by omega, by omega, rfl, Lib.hid (Below.refl _ _)⟩
      case round =>
        obtain ⟨i, hi10, hgg, rfl, HBo⟩ := hrel
        by_cases hlt : i < 10
        · have hltz : (i : Int) < 10 := by omega
          have hltn : (i : Int) < ((10 : Nat) : Int) := by omega
          have hi0 : (0 : Int) ≤ (i : Int) := by omega
          obtain ⟨k, hk⟩ : ∃ k, K.getD i ByteArray.empty = k := ⟨_, rfl⟩
          have ck0 := HK3.out i hlt
          rw [hk] at ck0
          have hcell : wr.cell? ⟨g, i, none⟩ = some (.string k) := by rw [HBo.out.cell (p := ⟨g, i, none⟩) HG.out]; exact ck0
          have hgr : g < wr.heap.size := Nat.lt_of_lt_of_le HG.out HBo.out.size
          clear ck0 hk
          obtain ⟨⟨q0, c0, c1⟩, ⟨q1, c2, c3⟩, ⟨q2, c4, c5⟩⟩ := HT4.out.below HBo.out
          obtain ⟨q3, c6, c7⟩ := HX4.out.below HBo.out
          obtain ⟨q4, c8, c9⟩ := HY4.out.below HBo.out
          have f0 := fun pw : BelowOf wr => pw.cell (a := ⟨W.heap.size, 0, none⟩) q0 c0
          have f1 := fun pw : BelowOf wr => pw.cell (a := ⟨W.heap.size, 1, none⟩) q0 c1
          have f2' := fun pw : BelowOf wr => pw.cell (a := ⟨W.heap.size + 1, 0, none⟩) q1 c2
          have f3 := fun pw : BelowOf wr => pw.cell (a := ⟨W.heap.size + 1, 1, none⟩) q1 c3
          have f4 := fun pw : BelowOf wr => pw.cell (a := ⟨W.heap.size + 1 + 1, 0, none⟩) q2 c4
          have f5 := fun pw : BelowOf wr => pw.cell (a := ⟨W.heap.size + 1 + 1, 1, none⟩) q2 c5
          have fk := fun pw : BelowOf wr => pw.cell (a := ⟨g, i, none⟩) hgr hcell
          have eX := meet_has (meetS ⟨f, t⟩ ⟨f', t'⟩) ⟨f2, t2⟩ k
          rw [HX.out, meet_has] at eX
          have eY := meet_has ⟨f, t⟩ (meetS ⟨f2, t2⟩ ⟨f', t'⟩) k
          rw [HY.out, meet_has] at eY
          have DX := Lib.hid (fun w => has_any m2 n2 k w)
          have DY := Lib.hid (fun w => has_any m4 n4 k w)
          have DA := Lib.hid (fun w => has_any f t k w)
          have DM := Lib.hid (fun w => meet_any f t ⟨#[]⟩ ⟨#[]⟩ w)
          have hma := meet_all ⟨f, t⟩
          unfold meetS at hma
          injection hma with hma1 hma2
          change maxS2 f ⟨#[]⟩ = f at hma1
          change firstEndS t ⟨#[]⟩ = t at hma2
          simp only [hma1, hma2] at DM
          have RA := Lib.hid (fun w => refHas_any f t k w)
          have RB := Lib.hid (fun w => refHas_any f' t' k w)
          have RC := Lib.hid (fun w => refHas_any f2 t2 k w)
          simp only [eX] at DX
          simp only [eY] at DY
          obtain ⟨x, hx⟩ : ∃ x, hasB ⟨f, t⟩ k = x := ⟨_, rfl⟩
          obtain ⟨y, hy⟩ : ∃ y, hasB ⟨f', t'⟩ k = y := ⟨_, rfl⟩
          obtain ⟨z, hz⟩ : ∃ z, hasB ⟨f2, t2⟩ k = z := ⟨_, rfl⟩
          simp only [hx, hy, hz] at DX DY DA RA RB RC
          clear hx hy hz eX eY hma1 hma2 c0 c1 c2 c3 c4 c5 c6 c7 c8 c9 hcell
          have bn := build_none
          cases x with
          | false =>
            rw [show ((false && y) && z) = false from rfl] at DX; rw [show (false && (z && y)) = false from rfl] at DY
            have EA := Lib.hid (fun pw : BelowOf wr => Calls.below_of pw (RA.out pw.w'))
            have EB := Lib.hid (fun pw : BelowOf wr => Calls.below_of pw (RB.out pw.w'))
            have EC := Lib.hid (fun pw : BelowOf wr => Calls.below_of pw (RC.out pw.w'))
            go_wp2_with fail
            refine wp_region_quiet_below (by assumption) (by kernel_rfl) ?_
            repeat (go_big_quiet_step (first | (go_at_call 10; with_reducible exact EA.out _) | (go_at_call 10; with_reducible exact EB.out _) | (go_at_call 10; with_reducible exact EC.out _)))
            refine wpQuiet_nil ?_
            intro wq hw'
            obtain ⟨⟨wz, hbq⟩, hw''⟩ := hw'
            obtain rfl : wq = wz := hw''
            have HBq := Lib.hid (HBo.out.trans (hbq.mono HBo.out.size))
            have hgq : g < wq.heap.size := Nat.lt_of_lt_of_le hgr hbq.size
            have ckq : wq.cell? ⟨g, i, none⟩ = some (.string k) := fk ⟨wq, hbq⟩
            clear f0 f1 f2' f3 f4 f5 fk EA EB EC hbq q0 q1 q2 q3 q4 HBo hgr
            obtain ⟨⟨q0, c0, c1⟩, ⟨q1, c2, c3⟩, ⟨q2, c4, c5⟩⟩ := HT4.out.below HBq.out
            obtain ⟨q3, c6, c7⟩ := HX4.out.below HBq.out
            obtain ⟨q4, c8, c9⟩ := HY4.out.below HBq.out
            have f0 := fun pw : BelowOf wq => pw.cell (a := ⟨W.heap.size, 0, none⟩) q0 c0
            have f1 := fun pw : BelowOf wq => pw.cell (a := ⟨W.heap.size, 1, none⟩) q0 c1
            have f6 := fun pw : BelowOf wq => pw.cell (a := ⟨bx, 0, none⟩) q3 c6
            have f7 := fun pw : BelowOf wq => pw.cell (a := ⟨bx, 1, none⟩) q3 c7
            have f8 := fun pw : BelowOf wq => pw.cell (a := ⟨by', 0, none⟩) q4 c8
            have f9 := fun pw : BelowOf wq => pw.cell (a := ⟨by', 1, none⟩) q4 c9
            have fk := fun pw : BelowOf wq => pw.cell (a := ⟨g, i, none⟩) hgq ckq
            have EX := Lib.hid (fun pw : BelowOf wq => Calls.below_of pw (DX.out pw.w'))
            have EY := Lib.hid (fun pw : BelowOf wq => Calls.below_of pw (DY.out pw.w'))
            have EA := Lib.hid (fun pw : BelowOf wq => Calls.below_of pw (DA.out pw.w'))
            have EM := Lib.hid (fun pw : BelowOf wq => Calls.below_of pw (DM.out pw.w'))
            have ER := Lib.hid (fun pw : BelowOf wq => Calls.below_of pw (RA.out pw.w'))
            clear c0 c1 c2 c3 c4 c5 c6 c7 c8 c9 ckq DX DY DA DM RA RB RC
            go_wp2_with fail
            refine wp_region_quiet_below (by assumption) (by kernel_rfl) ?_
            repeat (go_big_quiet_step (first | (go_at_call 11; with_reducible exact EX.out _) | (go_at_call 11; with_reducible exact EY.out _) | (go_at_call 11; with_reducible exact EA.out _) | (go_at_call 9; with_reducible exact EM.out _) | (go_at_call 10; with_reducible exact ER.out _)))
            refine wpQuiet_nil ?_
            intro wp hw'
            obtain ⟨⟨wz, hbp⟩, hw''⟩ := hw'
            obtain rfl : wp = wz := hw''
            have HBp := Lib.hid (HBq.out.trans (hbp.mono HBq.out.size))
            clear hbp
            go_wp2_with fail
            go_roundg (10 - (i + 1))
            case measure => omega
            case rel => exact ⟨i + 1, by omega, by omega, by go_num, HBp⟩
          | true =>
            cases y with
            | false =>
              rw [show ((true && false) && z) = false from rfl] at DX; rw [show (true && (z && false)) = false from (by cases z <;> rfl)] at DY
              have EA := Lib.hid (fun pw : BelowOf wr => Calls.below_of pw (RA.out pw.w'))
              have EB := Lib.hid (fun pw : BelowOf wr => Calls.below_of pw (RB.out pw.w'))
              have EC := Lib.hid (fun pw : BelowOf wr => Calls.below_of pw (RC.out pw.w'))
              go_wp2_with fail
              refine wp_region_quiet_below (by assumption) (by kernel_rfl) ?_
              repeat (go_big_quiet_step (first | (go_at_call 10; with_reducible exact EA.out _) | (go_at_call 10; with_reducible exact EB.out _) | (go_at_call 10; with_reducible exact EC.out _)))
              refine wpQuiet_nil ?_
              intro wq hw'
              obtain ⟨⟨wz, hbq⟩, hw''⟩ := hw'
              obtain rfl : wq = wz := hw''
              have HBq := Lib.hid (HBo.out.trans (hbq.mono HBo.out.size))
              have hgq : g < wq.heap.size := Nat.lt_of_lt_of_le hgr hbq.size
              have ckq : wq.cell? ⟨g, i, none⟩ = some (.string k) := fk ⟨wq, hbq⟩
              clear f0 f1 f2' f3 f4 f5 fk EA EB EC hbq q0 q1 q2 q3 q4 HBo hgr
              obtain ⟨⟨q0, c0, c1⟩, ⟨q1, c2, c3⟩, ⟨q2, c4, c5⟩⟩ := HT4.out.below HBq.out
              obtain ⟨q3, c6, c7⟩ := HX4.out.below HBq.out
              obtain ⟨q4, c8, c9⟩ := HY4.out.below HBq.out
              have f0 := fun pw : BelowOf wq => pw.cell (a := ⟨W.heap.size, 0, none⟩) q0 c0
              have f1 := fun pw : BelowOf wq => pw.cell (a := ⟨W.heap.size, 1, none⟩) q0 c1
              have f6 := fun pw : BelowOf wq => pw.cell (a := ⟨bx, 0, none⟩) q3 c6
              have f7 := fun pw : BelowOf wq => pw.cell (a := ⟨bx, 1, none⟩) q3 c7
              have f8 := fun pw : BelowOf wq => pw.cell (a := ⟨by', 0, none⟩) q4 c8
              have f9 := fun pw : BelowOf wq => pw.cell (a := ⟨by', 1, none⟩) q4 c9
              have fk := fun pw : BelowOf wq => pw.cell (a := ⟨g, i, none⟩) hgq ckq
              have EX := Lib.hid (fun pw : BelowOf wq => Calls.below_of pw (DX.out pw.w'))
              have EY := Lib.hid (fun pw : BelowOf wq => Calls.below_of pw (DY.out pw.w'))
              have EA := Lib.hid (fun pw : BelowOf wq => Calls.below_of pw (DA.out pw.w'))
              have EM := Lib.hid (fun pw : BelowOf wq => Calls.below_of pw (DM.out pw.w'))
              have ER := Lib.hid (fun pw : BelowOf wq => Calls.below_of pw (RA.out pw.w'))
              clear c0 c1 c2 c3 c4 c5 c6 c7 c8 c9 ckq DX DY DA DM RA RB RC
              go_wp2_with fail
              refine wp_region_quiet_below (by assumption) (by kernel_rfl) ?_
              repeat (go_big_quiet_step (first | (go_at_call 11; with_reducible exact EX.out _) | (go_at_call 11; with_reducible exact EY.out _) | (go_at_call 11; with_reducible exact EA.out _) | (go_at_call 9; with_reducible exact EM.out _) | (go_at_call 10; with_reducible exact ER.out _)))
              refine wpQuiet_nil ?_
              intro wp hw'
              obtain ⟨⟨wz, hbp⟩, hw''⟩ := hw'
              obtain rfl : wp = wz := hw''
              have HBp := Lib.hid (HBq.out.trans (hbp.mono HBq.out.size))
              clear hbp
              go_wp2_with fail
              go_roundg (10 - (i + 1))
              case measure => omega
              case rel => exact ⟨i + 1, by omega, by omega, by go_num, HBp⟩
            | true =>
              cases z with
              | false =>
                rw [show ((true && true) && false) = false from rfl] at DX; rw [show (true && (false && true)) = false from rfl] at DY
                have EA := Lib.hid (fun pw : BelowOf wr => Calls.below_of pw (RA.out pw.w'))
                have EB := Lib.hid (fun pw : BelowOf wr => Calls.below_of pw (RB.out pw.w'))
                have EC := Lib.hid (fun pw : BelowOf wr => Calls.below_of pw (RC.out pw.w'))
                go_wp2_with fail
                refine wp_region_quiet_below (by assumption) (by kernel_rfl) ?_
                repeat (go_big_quiet_step (first | (go_at_call 10; with_reducible exact EA.out _) | (go_at_call 10; with_reducible exact EB.out _) | (go_at_call 10; with_reducible exact EC.out _)))
                refine wpQuiet_nil ?_
                intro wq hw'
                obtain ⟨⟨wz, hbq⟩, hw''⟩ := hw'
                obtain rfl : wq = wz := hw''
                have HBq := Lib.hid (HBo.out.trans (hbq.mono HBo.out.size))
                have hgq : g < wq.heap.size := Nat.lt_of_lt_of_le hgr hbq.size
                have ckq : wq.cell? ⟨g, i, none⟩ = some (.string k) := fk ⟨wq, hbq⟩
                clear f0 f1 f2' f3 f4 f5 fk EA EB EC hbq q0 q1 q2 q3 q4 HBo hgr
                obtain ⟨⟨q0, c0, c1⟩, ⟨q1, c2, c3⟩, ⟨q2, c4, c5⟩⟩ := HT4.out.below HBq.out
                obtain ⟨q3, c6, c7⟩ := HX4.out.below HBq.out
                obtain ⟨q4, c8, c9⟩ := HY4.out.below HBq.out
                have f0 := fun pw : BelowOf wq => pw.cell (a := ⟨W.heap.size, 0, none⟩) q0 c0
                have f1 := fun pw : BelowOf wq => pw.cell (a := ⟨W.heap.size, 1, none⟩) q0 c1
                have f6 := fun pw : BelowOf wq => pw.cell (a := ⟨bx, 0, none⟩) q3 c6
                have f7 := fun pw : BelowOf wq => pw.cell (a := ⟨bx, 1, none⟩) q3 c7
                have f8 := fun pw : BelowOf wq => pw.cell (a := ⟨by', 0, none⟩) q4 c8
                have f9 := fun pw : BelowOf wq => pw.cell (a := ⟨by', 1, none⟩) q4 c9
                have fk := fun pw : BelowOf wq => pw.cell (a := ⟨g, i, none⟩) hgq ckq
                have EX := Lib.hid (fun pw : BelowOf wq => Calls.below_of pw (DX.out pw.w'))
                have EY := Lib.hid (fun pw : BelowOf wq => Calls.below_of pw (DY.out pw.w'))
                have EA := Lib.hid (fun pw : BelowOf wq => Calls.below_of pw (DA.out pw.w'))
                have EM := Lib.hid (fun pw : BelowOf wq => Calls.below_of pw (DM.out pw.w'))
                have ER := Lib.hid (fun pw : BelowOf wq => Calls.below_of pw (RA.out pw.w'))
                clear c0 c1 c2 c3 c4 c5 c6 c7 c8 c9 ckq DX DY DA DM RA RB RC
                go_wp2_with fail
                refine wp_region_quiet_below (by assumption) (by kernel_rfl) ?_
                repeat (go_big_quiet_step (first | (go_at_call 11; with_reducible exact EX.out _) | (go_at_call 11; with_reducible exact EY.out _) | (go_at_call 11; with_reducible exact EA.out _) | (go_at_call 9; with_reducible exact EM.out _) | (go_at_call 10; with_reducible exact ER.out _)))
                refine wpQuiet_nil ?_
                intro wp hw'
                obtain ⟨⟨wz, hbp⟩, hw''⟩ := hw'
                obtain rfl : wp = wz := hw''
                have HBp := Lib.hid (HBq.out.trans (hbp.mono HBq.out.size))
                clear hbp
                go_wp2_with fail
                go_roundg (10 - (i + 1))
                case measure => omega
                case rel => exact ⟨i + 1, by omega, by omega, by go_num, HBp⟩
              | true =>
                rw [show ((true && true) && true) = true from rfl] at DX; rw [show (true && (true && true)) = true from rfl] at DY
                have EA := Lib.hid (fun pw : BelowOf wr => Calls.below_of pw (RA.out pw.w'))
                have EB := Lib.hid (fun pw : BelowOf wr => Calls.below_of pw (RB.out pw.w'))
                have EC := Lib.hid (fun pw : BelowOf wr => Calls.below_of pw (RC.out pw.w'))
                go_wp2_with fail
                refine wp_region_quiet_below (by assumption) (by kernel_rfl) ?_
                repeat (go_big_quiet_step (first | (go_at_call 10; with_reducible exact EA.out _) | (go_at_call 10; with_reducible exact EB.out _) | (go_at_call 10; with_reducible exact EC.out _)))
                refine wpQuiet_nil ?_
                intro wq hw'
                obtain ⟨⟨wz, hbq⟩, hw''⟩ := hw'
                obtain rfl : wq = wz := hw''
                have HBq := Lib.hid (HBo.out.trans (hbq.mono HBo.out.size))
                have hgq : g < wq.heap.size := Nat.lt_of_lt_of_le hgr hbq.size
                have ckq : wq.cell? ⟨g, i, none⟩ = some (.string k) := fk ⟨wq, hbq⟩
                clear f0 f1 f2' f3 f4 f5 fk EA EB EC hbq q0 q1 q2 q3 q4 HBo hgr
                obtain ⟨⟨q0, c0, c1⟩, ⟨q1, c2, c3⟩, ⟨q2, c4, c5⟩⟩ := HT4.out.below HBq.out
                obtain ⟨q3, c6, c7⟩ := HX4.out.below HBq.out
                obtain ⟨q4, c8, c9⟩ := HY4.out.below HBq.out
                have f0 := fun pw : BelowOf wq => pw.cell (a := ⟨W.heap.size, 0, none⟩) q0 c0
                have f1 := fun pw : BelowOf wq => pw.cell (a := ⟨W.heap.size, 1, none⟩) q0 c1
                have f6 := fun pw : BelowOf wq => pw.cell (a := ⟨bx, 0, none⟩) q3 c6
                have f7 := fun pw : BelowOf wq => pw.cell (a := ⟨bx, 1, none⟩) q3 c7
                have f8 := fun pw : BelowOf wq => pw.cell (a := ⟨by', 0, none⟩) q4 c8
                have f9 := fun pw : BelowOf wq => pw.cell (a := ⟨by', 1, none⟩) q4 c9
                have fk := fun pw : BelowOf wq => pw.cell (a := ⟨g, i, none⟩) hgq ckq
                have EX := Lib.hid (fun pw : BelowOf wq => Calls.below_of pw (DX.out pw.w'))
                have EY := Lib.hid (fun pw : BelowOf wq => Calls.below_of pw (DY.out pw.w'))
                have EA := Lib.hid (fun pw : BelowOf wq => Calls.below_of pw (DA.out pw.w'))
                have EM := Lib.hid (fun pw : BelowOf wq => Calls.below_of pw (DM.out pw.w'))
                have ER := Lib.hid (fun pw : BelowOf wq => Calls.below_of pw (RA.out pw.w'))
                clear c0 c1 c2 c3 c4 c5 c6 c7 c8 c9 ckq DX DY DA DM RA RB RC
                go_wp2_with fail
                refine wp_region_quiet_below (by assumption) (by kernel_rfl) ?_
                repeat (go_big_quiet_step (first | (go_at_call 11; with_reducible exact EX.out _) | (go_at_call 11; with_reducible exact EY.out _) | (go_at_call 11; with_reducible exact EA.out _) | (go_at_call 9; with_reducible exact EM.out _) | (go_at_call 10; with_reducible exact ER.out _)))
                refine wpQuiet_nil ?_
                intro wp hw'
                obtain ⟨⟨wz, hbp⟩, hw''⟩ := hw'
                obtain rfl : wp = wz := hw''
                have HBp := Lib.hid (HBq.out.trans (hbp.mono HBq.out.size))
                clear hbp
                go_wp2_with fail
                go_roundg (10 - (i + 1))
                case measure => omega
                case rel => exact ⟨i + 1, by omega, by omega, by go_num, HBp⟩
        · obtain rfl : i = 10 := by omega
          have hltz : ¬ ((10 : Nat) : Int) < 10 := by omega
          have HTr := Lib.hid (HT4.out.below HBo.out)
          have HXr := Lib.hid (HX4.out.below HBo.out)
          have HBr := Lib.hid (HB4.out.trans (HBo.out.mono HB4.out.size))
          have CW1 := Lib.hid (fun w => within_any f t f' t' w)
          have CW2 := Lib.hid (fun w => within_any f' t' f2 t2 w)
          have CW3 := Lib.hid (fun w => within_any f t f2 t2 w)
          have CW4 := Lib.hid (fun w => within_any m2 n2 f t w)
          have CW5 := Lib.hid (fun w => within_any m2 n2 f2 t2 w)
          have hm4 := within_trans (meet_within (meetS ⟨f, t⟩ ⟨f', t'⟩) ⟨f2, t2⟩).1 (meet_within ⟨f, t⟩ ⟨f', t'⟩).1
          have hm5 := (meet_within (meetS ⟨f, t⟩ ⟨f', t'⟩) ⟨f2, t2⟩).2
          rw [HX.out] at hm4 hm5
          have hm3 : withinB ⟨f, t⟩ ⟨f', t'⟩ = true → withinB ⟨f', t'⟩ ⟨f2, t2⟩ = true → withinB ⟨f, t⟩ ⟨f2, t2⟩ = true := within_trans
          obtain ⟨x, hx⟩ : ∃ x, withinB ⟨f, t⟩ ⟨f', t'⟩ = x := ⟨_, rfl⟩
          obtain ⟨y, hy⟩ : ∃ x, withinB ⟨f', t'⟩ ⟨f2, t2⟩ = x := ⟨_, rfl⟩
          obtain ⟨z, hz⟩ : ∃ x, withinB ⟨f, t⟩ ⟨f2, t2⟩ = x := ⟨_, rfl⟩
          rw [hx, hy, hz] at hm3
          simp only [hx] at CW1
          simp only [hy] at CW2
          simp only [hz] at CW3
          simp only [hm4] at CW4
          simp only [hm5] at CW5
          clear hx hy hz hm4 hm5 HX HY HBo HB4 HT4 HX4 HY4 HK3 HG HF HT'
          obtain ⟨⟨q0, c0, c1⟩, ⟨q1, c2, c3⟩, ⟨q2, c4, c5⟩⟩ := HTr.out
          obtain ⟨q3, c6, c7⟩ := HXr.out
          go_wp2_with fail
          refine (CW1.out wr).mono ?_
          rintro e w5 ⟨rfl, hb5⟩
          have HT5 := Lib.hid (HTr.out.below hb5)
          have HX5 := Lib.hid (HXr.out.below hb5)
          have HB5 := Lib.hid (HBr.out.trans (hb5.mono HBr.out.size))
          clear hb5 c0 c1 c2 c3 c4 c5 c6 c7 q0 q1 q2 q3 CW1 HTr HXr HBr
          cases x with
          | false =>
            clear hm3 CW2 CW3
            obtain ⟨⟨q0, c0, c1⟩, ⟨q1, c2, c3⟩, ⟨q2, c4, c5⟩⟩ := HT5.out
            obtain ⟨q3, c6, c7⟩ := HX5.out
            go_wp2_with fail
            refine (CW4.out w5).mono ?_
            rintro e w6 ⟨rfl, hb6⟩
            have HT6 := Lib.hid (HT5.out.below hb6)
            have HX6 := Lib.hid (HX5.out.below hb6)
            have HB6 := Lib.hid (HB5.out.trans (hb6.mono HB5.out.size))
            clear hb6 c0 c1 c2 c3 c4 c5 c6 c7 q0 q1 q2 q3 CW4 HT5 HX5 HB5
            obtain ⟨⟨q0, c0, c1⟩, ⟨q1, c2, c3⟩, ⟨q2, c4, c5⟩⟩ := HT6.out
            obtain ⟨q3, c6, c7⟩ := HX6.out
            go_wp2_with fail
            refine (CW5.out w6).mono ?_
            rintro e w7 ⟨rfl, hb7⟩
            have HT7 := Lib.hid (HT6.out.below hb7)
            have HX7 := Lib.hid (HX6.out.below hb7)
            have HB7 := Lib.hid (HB6.out.trans (hb7.mono HB6.out.size))
            clear hb7 c0 c1 c2 c3 c4 c5 c6 c7 q0 q1 q2 q3 CW5 HT6 HX6 HB6
            go_wp2_with fail
            go_ret
            exact ⟨rfl, HB7.out⟩
          | true =>
            obtain ⟨⟨q0, c0, c1⟩, ⟨q1, c2, c3⟩, ⟨q2, c4, c5⟩⟩ := HT5.out
            obtain ⟨q3, c6, c7⟩ := HX5.out
            go_wp2_with fail
            refine (CW2.out w5).mono ?_
            rintro e w6 ⟨rfl, hb6⟩
            have HT6 := Lib.hid (HT5.out.below hb6)
            have HX6 := Lib.hid (HX5.out.below hb6)
            have HB6 := Lib.hid (HB5.out.trans (hb6.mono HB5.out.size))
            clear hb6 c0 c1 c2 c3 c4 c5 c6 c7 q0 q1 q2 q3 CW2 HT5 HX5 HB5
            cases y with
            | false =>
              clear hm3 CW3
              obtain ⟨⟨q0, c0, c1⟩, ⟨q1, c2, c3⟩, ⟨q2, c4, c5⟩⟩ := HT6.out
              obtain ⟨q3, c6, c7⟩ := HX6.out
              go_wp2_with fail
              refine (CW4.out w6).mono ?_
              rintro e w7 ⟨rfl, hb7⟩
              have HT7 := Lib.hid (HT6.out.below hb7)
              have HX7 := Lib.hid (HX6.out.below hb7)
              have HB7 := Lib.hid (HB6.out.trans (hb7.mono HB6.out.size))
              clear hb7 c0 c1 c2 c3 c4 c5 c6 c7 q0 q1 q2 q3 CW4 HT6 HX6 HB6
              obtain ⟨⟨q0, c0, c1⟩, ⟨q1, c2, c3⟩, ⟨q2, c4, c5⟩⟩ := HT7.out
              obtain ⟨q3, c6, c7⟩ := HX7.out
              go_wp2_with fail
              refine (CW5.out w7).mono ?_
              rintro e w8 ⟨rfl, hb8⟩
              have HT8 := Lib.hid (HT7.out.below hb8)
              have HX8 := Lib.hid (HX7.out.below hb8)
              have HB8 := Lib.hid (HB7.out.trans (hb8.mono HB7.out.size))
              clear hb8 c0 c1 c2 c3 c4 c5 c6 c7 q0 q1 q2 q3 CW5 HT7 HX7 HB7
              go_wp2_with fail
              go_ret
              exact ⟨rfl, HB8.out⟩
            | true =>
              obtain rfl : z = true := by simpa using hm3
              clear hm3
              obtain ⟨⟨q0, c0, c1⟩, ⟨q1, c2, c3⟩, ⟨q2, c4, c5⟩⟩ := HT6.out
              obtain ⟨q3, c6, c7⟩ := HX6.out
              go_wp2_with fail
              refine (CW3.out w6).mono ?_
              rintro e w7 ⟨rfl, hb7⟩
              have HT7 := Lib.hid (HT6.out.below hb7)
              have HX7 := Lib.hid (HX6.out.below hb7)
              have HB7 := Lib.hid (HB6.out.trans (hb7.mono HB6.out.size))
              clear hb7 c0 c1 c2 c3 c4 c5 c6 c7 q0 q1 q2 q3 CW3 HT6 HX6 HB6
              obtain ⟨⟨q0, c0, c1⟩, ⟨q1, c2, c3⟩, ⟨q2, c4, c5⟩⟩ := HT7.out
              obtain ⟨q3, c6, c7⟩ := HX7.out
              go_wp2_with fail
              refine (CW4.out w7).mono ?_
              rintro e w8 ⟨rfl, hb8⟩
              have HT8 := Lib.hid (HT7.out.below hb8)
              have HX8 := Lib.hid (HX7.out.below hb8)
              have HB8 := Lib.hid (HB7.out.trans (hb8.mono HB7.out.size))
              clear hb8 c0 c1 c2 c3 c4 c5 c6 c7 q0 q1 q2 q3 CW4 HT7 HX7 HB7
              obtain ⟨⟨q0, c0, c1⟩, ⟨q1, c2, c3⟩, ⟨q2, c4, c5⟩⟩ := HT8.out
              obtain ⟨q3, c6, c7⟩ := HX8.out
              go_wp2_with fail
              refine (CW5.out w8).mono ?_
              rintro e w9 ⟨rfl, hb9⟩
              have HT9 := Lib.hid (HT8.out.below hb9)
              have HX9 := Lib.hid (HX8.out.below hb9)
              have HB9 := Lib.hid (HB8.out.trans (hb9.mono HB8.out.size))
              clear hb9 c0 c1 c2 c3 c4 c5 c6 c7 q0 q1 q2 q3 CW5 HT8 HX8 HB8
              go_wp2_with fail
              go_ret
              exact ⟨rfl, HB9.out⟩
end Go.Proofs.Ytafmglnjheeajaa
