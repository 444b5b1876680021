/-
  Layer grove, at int, int: the least of a tree cut off, two trees joined, a tree without what is taken.
-/
import Derived.Test.YtaghflionakhhaaGvWithIi
namespace Go.Proofs.Ytaghflionakhhaa
open Go.RowKit Go.Gz

/-- the item of a node at block g. -/
structure ItemAtIi (S : Nat → Prop) (w : World) (g : Nat) (x : Int × Int) : Prop where
  hS : S g
  lt : g < w.heap.size
  c0 : w.cell? ⟨g, 0, none⟩ = some (.int .i64 x.1)
  c1 : w.cell? ⟨g, 1, none⟩ = some (.int .i64 x.2)
theorem ItemAtIi.below {S : Nat → Prop} {w W : World} {g : Nat} {x : Int × Int} (h : ItemAtIi S w g x) (hb : Below w.heap.size w W) : ItemAtIi S W g x :=
  ⟨h.hS, by have := h.lt; have := hb.size; omega, by rw [hb.cell (p := ⟨g, 0, none⟩) h.lt]; exact h.c0, by rw [hb.cell (p := ⟨g, 1, none⟩) h.lt]; exact h.c1⟩

def GotCutIi (S : Nat → Prop) (w : World) (x : Int × Int) (t : GT Int Int) (e : Ending) (w' : World) : Prop :=
  ∃ gl r, e = .returned (.tuple #[.pointer (some ⟨gl, 0, none⟩), .pointer r]) ∧ ItemAtIi S w' gl x ∧ TrIi S w' r t ∧ Below w.heap.size w w'

set_option maxHeartbeats 4000000 in
set_option maxRecDepth 100000 in
theorem cut_anyIi {S : Nat → Prop} (l : GT Int Int) : ∀ (k : Int) (v : Int) (r : GT Int Int) (w : World) (g : Nat) (pl pr : Option Addr), NodeAt (Value.int .i64) (Value.int .i64) S w g k v pl pr l r → (∀ j, w.heap.size ≤ j → S j) → l.many + r.many ≤ 1000000 →
    Calls Try.prog 97 #[.pointer (some ⟨g, 0, none⟩)] w (GotCutIi S w (cutT k v l r).1 (cutT k v l r).2) := by
  have mx := mixedS
  induction l with
  | nil =>
    intro k v r w g pl pr hn hS hm
    obtain rfl : pl = none := hn.hl
    have HN := Lib.hid hn
    have n2 := hn.c2
    have HS := Lib.hid hS
    clear hn hm hS
    go_enter Try.func97, Try.ntmps97
    go_wp2_with fail
    clear n2
    refine wp_region_mono mx (by kernel_rfl) [VP.eq (.pointer (some ⟨g, 0, none⟩)), VP.eq (.pointer (some ⟨g, 0, none⟩)), VP.eq (.pointer (some ⟨g, 0, none⟩)), VP.eq (.pointer (some ⟨g, 2, none⟩)), VP.eq (.pointer (some ⟨g, 3, none⟩)), VP.eq (.pointer pr), VP.eq (.pointer (some ⟨g, 0, none⟩)), VP.eq (.pointer pr)] ?_ ?_
    · intro i o L vals w2 hi hL hdep hC hJ hV
      have hlt : i < 8 := by have := (List.getElem?_eq_some_iff.1 hi).1; simpa using this
      generalize hA : frA _ _ L vals = a'
      have hT0 : a'.tmps.getD 0 undef = .pointer (some ⟨g, 0, none⟩) := by rw [← hA, frA_base (by kernel_rfl)]; rfl
      have hD := Lib.hid (fun k t (hk : L k = true) (ht : dstOf _ k = some t) => hA ▸ frA_done (by kernel_rfl) (vals := vals) hk ht)
      clear hA
      have n3 := (HN.out.below hJ).c3
      obtain rfl | rfl | rfl | rfl | rfl | rfl | rfl | rfl : i = 0 ∨ i = 1 ∨ i = 2 ∨ i = 3 ∨ i = 4 ∨ i = 5 ∨ i = 6 ∨ i = 7 := by omega
      all_goals
        injection hi with hi
        subst hi
        try simp [Region.binds] at hdep
      · exact step_run rfl (v := .pointer (some ⟨g, 0, none⟩)) (w' := w2) (by go_simp) ⟨rfl, Below.refl _ _⟩
      · exact step_run rfl (v := .pointer (some ⟨g, 0, none⟩)) (w' := w2) (by go_simp) ⟨rfl, Below.refl _ _⟩
      · have d11 := hD.out 1 11 (by simp [hdep]) rfl
        rw [show vals 1 = .pointer (some ⟨g, 0, none⟩) from hV 1 (by simp [hdep])] at d11
        exact step_run rfl (v := .pointer (some ⟨g, 0, none⟩)) (w' := w2) (by go_simp) ⟨rfl, Below.refl _ _⟩
      · have d12 := hD.out 2 12 (by simp [hdep]) rfl
        rw [show vals 2 = .pointer (some ⟨g, 0, none⟩) from hV 2 (by simp [hdep])] at d12
        exact step_run rfl (v := .pointer (some ⟨g, 2, none⟩)) (w' := w2) (by go_simp) ⟨rfl, Below.refl _ _⟩
      · have d13 := hD.out 3 13 (by simp [hdep]) rfl
        rw [show vals 3 = .pointer (some ⟨g, 2, none⟩) from hV 3 (by simp [hdep])] at d13
        exact step_run rfl (v := .pointer (some ⟨g, 3, none⟩)) (w' := w2) (by go_simp) ⟨rfl, Below.refl _ _⟩
      · have d14 := hD.out 4 14 (by simp [hdep]) rfl
        rw [show vals 4 = .pointer (some ⟨g, 3, none⟩) from hV 4 (by simp [hdep])] at d14
        exact step_run rfl (v := .pointer pr) (w' := w2) (by go_simp) ⟨rfl, Below.refl _ _⟩
      · have d10 := hD.out 0 10 (by simp [hdep]) rfl
        rw [show vals 0 = .pointer (some ⟨g, 0, none⟩) from hV 0 (by simp [hdep])] at d10
        exact step_run rfl (v := .pointer (some ⟨g, 0, none⟩)) (w' := w2) (by go_simp) ⟨rfl, Below.refl _ _⟩
      · have d15 := hD.out 5 15 (by simp [hdep]) rfl
        rw [show vals 5 = .pointer pr from hV 5 (by simp [hdep])] at d15
        exact step_run rfl (v := .pointer pr) (w' := w2) (by go_simp) ⟨rfl, Below.refl _ _⟩
    · intro vals w2 hJ hV
      have e0 : vals 0 = .pointer (some ⟨g, 0, none⟩) := hV 0 (by decide)
      have e1 : vals 1 = .pointer (some ⟨g, 0, none⟩) := hV 1 (by decide)
      have e2 : vals 2 = .pointer (some ⟨g, 0, none⟩) := hV 2 (by decide)
      have e3 : vals 3 = .pointer (some ⟨g, 2, none⟩) := hV 3 (by decide)
      have e4 : vals 4 = .pointer (some ⟨g, 3, none⟩) := hV 4 (by decide)
      have e5 : vals 5 = .pointer pr := hV 5 (by decide)
      have e6 : vals 6 = .pointer (some ⟨g, 0, none⟩) := hV 6 (by decide)
      have e7 : vals 7 = .pointer pr := hV 7 (by decide)
      simp only [putsL, Act.put, List.setIfInBounds_toArray, List.set_cons_zero, List.set_cons_succ, e0, e1, e2, e3, e4, e5, e6, e7]
      clear e0 e1 e2 e3 e4 e5 e6 e7
      have HB2 := Lib.hid hJ
      have HN2 := Lib.hid (HN.out.below hJ)
      clear hJ hV
      go_wp2_with fail
      exact bodyPost_ret (v := .tuple #[.pointer (some ⟨g, 0, none⟩), .pointer pr]) (by simp [results, Try.results97, go_sem]) rfl ⟨g, pr, rfl, ⟨HN2.out.hS, HN2.out.lt, HN2.out.c0, HN2.out.c1⟩, HN2.out.hr, HB2.out⟩
  | node lk lv ll lr ihl _ =>
    intro k v r w g pl pr hn hS hm
    obtain ⟨gl, ql, qr, rfl, hnl⟩ := TrS.node hn.hl
    have HN := Lib.hid hn
    have HNL := Lib.hid hnl
    have n2 := hn.c2
    have HS := Lib.hid hS
    have HM := Lib.hid hm
    have CI := Lib.hid (ihl lk lv lr w gl ql qr hnl hS (by simp only [GT.many] at hm; omega))
    have HCM := Lib.hid (cut_many lk lv ll lr)
    obtain ⟨x, hx⟩ : ∃ x, (cutT lk lv ll lr).1 = x := ⟨_, rfl⟩
    obtain ⟨t, ht⟩ : ∃ t, (cutT lk lv ll lr).2 = t := ⟨_, rfl⟩
    rw [hx, ht] at CI
    rw [ht] at HCM
    have HX := Lib.hid (show (cutT k v (GT.node lk lv ll lr) r).1 = x from hx)
    have HT := Lib.hid (show (cutT k v (GT.node lk lv ll lr) r).2 = evenT true (k, v) r t by simp only [cutT]; rw [ht])
    clear hn hnl hm hS ihl hx ht
    go_enter Try.func97, Try.ntmps97
    go_wp2_with fail
    refine CI.out.mono ?_
    rintro e w1 ⟨gi, r1, rfl, hit, hr1, hb1⟩
    have HI1 := Lib.hid hit
    have HR1 := Lib.hid hr1
    have HN1 := Lib.hid (HN.out.below hb1)
    have HB1 := Lib.hid hb1
    clear hit hr1 hb1 n2 CI HN
    go_wp2_with fail
    refine wp_region_mono mx (by kernel_rfl) [VP.eq (.pointer (some ⟨gi, 0, none⟩)), VP.eq (.pointer (some ⟨g, 0, none⟩)), VP.eq (.pointer (some ⟨g, 0, none⟩)), VP.eq (.pointer (some ⟨g, 0, none⟩)), VP.eq (.agg #[.int .i64 k, .int .i64 v]), VP.eq (.pointer (some ⟨g, 0, none⟩)), VP.eq (.pointer (some ⟨g, 0, none⟩)), VP.eq (.pointer (some ⟨g, 2, none⟩)), VP.eq (.pointer (some ⟨g, 3, none⟩)), VP.eq (.pointer pr), VP.eq (.pointer r1), TrPIi S (evenT true (k, v) r t), VP.eq (.pointer (some ⟨gi, 0, none⟩)), TrPIi S (evenT true (k, v) r t)] ?_ ?_
    · intro i o L vals w2 hi hL hdep hC hJ hV
      have hlt : i < 14 := by have := (List.getElem?_eq_some_iff.1 hi).1; simpa using this
      generalize hA : frA _ _ L vals = a'
      have hT0 : a'.tmps.getD 0 undef = .pointer (some ⟨g, 0, none⟩) := by rw [← hA, frA_base (by kernel_rfl)]; rfl
      have hD := Lib.hid (fun k t (hk : L k = true) (ht : dstOf _ k = some t) => hA ▸ frA_done (by kernel_rfl) (vals := vals) hk ht)
      have hW := Lib.hid (fun t k (hd : dstOf _ k = some t) (hl : L k = false) => hA ▸ frA_wait (by kernel_rfl) (vals := vals) hd hl)
      clear hA
      have n0 := (HN1.out.below hJ).c0
      have n1 := (HN1.out.below hJ).c1
      have n3 := (HN1.out.below hJ).c3
      obtain rfl | rfl | rfl | rfl | rfl | rfl | rfl | rfl | rfl | rfl | rfl | rfl | rfl | rfl : i = 0 ∨ i = 1 ∨ i = 2 ∨ i = 3 ∨ i = 4 ∨ i = 5 ∨ i = 6 ∨ i = 7 ∨ i = 8 ∨ i = 9 ∨ i = 10 ∨ i = 11 ∨ i = 12 ∨ i = 13 := by omega
      all_goals
        injection hi with hi
        subst hi
        try simp [Region.binds] at hdep
      · have hno2 : L 12 = false := by
          cases h : L 12 with
          | false => rfl
          | true =>
            have h2 := hC 12 _ rfl h
            simp [Region.binds, hL] at h2
        have hT2 : a'.tmps.getD 2 undef = .pointer (some ⟨gi, 0, none⟩) := (hW.out 2 12 rfl hno2).trans rfl
        exact step_run rfl (v := .pointer (some ⟨gi, 0, none⟩)) (w' := w2) (by go_simp) ⟨rfl, Below.refl _ _⟩
      · exact step_run rfl (v := .pointer (some ⟨g, 0, none⟩)) (w' := w2) (by go_simp) ⟨rfl, Below.refl _ _⟩
      · have d26 := hD.out 1 26 (by simp [hdep]) rfl
        rw [show vals 1 = .pointer (some ⟨g, 0, none⟩) from hV 1 (by simp [hdep])] at d26
        exact step_run rfl (v := .pointer (some ⟨g, 0, none⟩)) (w' := w2) (by go_simp) ⟨rfl, Below.refl _ _⟩
      · have d27 := hD.out 2 27 (by simp [hdep]) rfl
        rw [show vals 2 = .pointer (some ⟨g, 0, none⟩) from hV 2 (by simp [hdep])] at d27
        exact step_run rfl (v := .pointer (some ⟨g, 0, none⟩)) (w' := w2) (by go_simp) ⟨rfl, Below.refl _ _⟩
      · have d28 := hD.out 3 28 (by simp [hdep]) rfl
        rw [show vals 3 = .pointer (some ⟨g, 0, none⟩) from hV 3 (by simp [hdep])] at d28
        exact step_run rfl (v := .agg #[.int .i64 k, .int .i64 v]) (w' := w2) (by go_simp) ⟨rfl, Below.refl _ _⟩
      · exact step_run rfl (v := .pointer (some ⟨g, 0, none⟩)) (w' := w2) (by go_simp) ⟨rfl, Below.refl _ _⟩
      · have d30 := hD.out 5 30 (by simp [hdep]) rfl
        rw [show vals 5 = .pointer (some ⟨g, 0, none⟩) from hV 5 (by simp [hdep])] at d30
        exact step_run rfl (v := .pointer (some ⟨g, 0, none⟩)) (w' := w2) (by go_simp) ⟨rfl, Below.refl _ _⟩
      · have d31 := hD.out 6 31 (by simp [hdep]) rfl
        rw [show vals 6 = .pointer (some ⟨g, 0, none⟩) from hV 6 (by simp [hdep])] at d31
        exact step_run rfl (v := .pointer (some ⟨g, 2, none⟩)) (w' := w2) (by go_simp) ⟨rfl, Below.refl _ _⟩
      · have d32 := hD.out 7 32 (by simp [hdep]) rfl
        rw [show vals 7 = .pointer (some ⟨g, 2, none⟩) from hV 7 (by simp [hdep])] at d32
        exact step_run rfl (v := .pointer (some ⟨g, 3, none⟩)) (w' := w2) (by go_simp) ⟨rfl, Below.refl _ _⟩
      · have d33 := hD.out 8 33 (by simp [hdep]) rfl
        rw [show vals 8 = .pointer (some ⟨g, 3, none⟩) from hV 8 (by simp [hdep])] at d33
        exact step_run rfl (v := .pointer pr) (w' := w2) (by go_simp) ⟨rfl, Below.refl _ _⟩
      · have hno3 : L 13 = false := by
          cases h : L 13 with
          | false => rfl
          | true =>
            have h2 := hC 13 _ rfl h
            simp [Region.binds, hL] at h2
        have hT3 : a'.tmps.getD 3 undef = .pointer r1 := (hW.out 3 13 rfl hno3).trans rfl
        exact step_run rfl (v := .pointer r1) (w' := w2) (by go_simp) ⟨rfl, Below.refl _ _⟩
      · have d29 := hD.out 4 29 (by simp [hdep]) rfl
        rw [show vals 4 = .agg #[.int .i64 k, .int .i64 v] from hV 4 (by simp [hdep])] at d29
        have d34 := hD.out 9 34 (by simp [hdep]) rfl
        rw [show vals 9 = .pointer pr from hV 9 (by simp [hdep])] at d34
        have d35 := hD.out 10 35 (by simp [hdep]) rfl
        rw [show vals 10 = .pointer r1 from hV 10 (by simp [hdep])] at d35
        refine step_enter rfl (w' := w2) (by go_simp <;> rfl) ((even_anyIi S w2 true k v pr r1 r t (HN1.out.below hJ).hr (TrS.below HR1.out hJ) (fun j hj => HS.out j (by have := hJ.size; have := HB1.out.size; omega)) (by have h1 := HM.out; have h2 := HCM.out; simp only [GT.many] at h1; omega)).mono ?_)
        rintro e w1 ⟨r, rfl, ht, hb1⟩
        exact ⟨_, rfl, ⟨r, rfl, ht⟩, hb1⟩
      · have d25 := hD.out 0 25 (by simp [hdep]) rfl
        rw [show vals 0 = .pointer (some ⟨gi, 0, none⟩) from hV 0 (by simp [hdep])] at d25
        exact step_run rfl (v := .pointer (some ⟨gi, 0, none⟩)) (w' := w2) (by go_simp) ⟨rfl, Below.refl _ _⟩
      · have d36 := hD.out 11 36 (by simp [hdep]) rfl
        exact step_run rfl (v := vals 11) (w' := w2) (by go_simp) ⟨hV 11 (by simp [hdep]), Below.refl _ _⟩
    · intro vals w2 hJ hV
      have e0 : vals 0 = .pointer (some ⟨gi, 0, none⟩) := hV 0 (by decide)
      have e1 : vals 1 = .pointer (some ⟨g, 0, none⟩) := hV 1 (by decide)
      have e2 : vals 2 = .pointer (some ⟨g, 0, none⟩) := hV 2 (by decide)
      have e3 : vals 3 = .pointer (some ⟨g, 0, none⟩) := hV 3 (by decide)
      have e4 : vals 4 = .agg #[.int .i64 k, .int .i64 v] := hV 4 (by decide)
      have e5 : vals 5 = .pointer (some ⟨g, 0, none⟩) := hV 5 (by decide)
      have e6 : vals 6 = .pointer (some ⟨g, 0, none⟩) := hV 6 (by decide)
      have e7 : vals 7 = .pointer (some ⟨g, 2, none⟩) := hV 7 (by decide)
      have e8 : vals 8 = .pointer (some ⟨g, 3, none⟩) := hV 8 (by decide)
      have e9 : vals 9 = .pointer pr := hV 9 (by decide)
      have e10 : vals 10 = .pointer r1 := hV 10 (by decide)
      have q11 := hV 11 (by decide)
      have e12 : vals 12 = .pointer (some ⟨gi, 0, none⟩) := hV 12 (by decide)
      have q13 := hV 13 (by decide)
      simp only [putsL, Act.put, List.setIfInBounds_toArray, List.set_cons_zero, List.set_cons_succ, e0, e1, e2, e3, e4, e5, e6, e7, e8, e9, e10, e12]
      clear e0 e1 e2 e3 e4 e5 e6 e7 e8 e9 e10 e12
      obtain ⟨r2, hr, ht⟩ := q13
      rw [hr]
      have HB2 := Lib.hid (HB1.out.trans (hJ.mono HB1.out.size))
      have HT2 := Lib.hid ht
      have HI2 := Lib.hid (HI1.out.below hJ)
      clear hJ hV q11 hr ht
      go_wp2_with fail
      exact bodyPost_ret (v := .tuple #[.pointer (some ⟨gi, 0, none⟩), .pointer r2]) (by simp [results, Try.results97, go_sem]) rfl ⟨gi, r2, rfl, by rw [HX.out]; exact HI2.out, by rw [HT.out]; exact HT2.out, HB2.out⟩

set_option maxHeartbeats 4000000 in
set_option maxRecDepth 100000 in
theorem join_anyIi {S : Nat → Prop} (l r : GT Int Int) (w : World) (p q : Option Addr) (hl : TrIi S w p l) (hr : TrIi S w q r) (hS : ∀ j, w.heap.size ≤ j → S j) (hm : l.many + r.many ≤ 1000000) :
    Calls Try.prog 86 #[.pointer p, .pointer q] w (GotIi S w (joinT l r)) := by
  cases r with
  | nil =>
    obtain rfl : q = none := hr
    have HL := Lib.hid hl
    clear hl hS hm
    go_enter Try.func86, Try.ntmps86
    go_wp2_with fail
    go_ret
    exact ⟨p, rfl, HL.out, Below.refl _ _⟩
  | node k v a b =>
    obtain ⟨g, pl, pr, rfl, hn⟩ := TrS.node hr
    have HL := Lib.hid hl
    have HS := Lib.hid hS
    have HM := Lib.hid hm
    have CI := Lib.hid (cut_anyIi a k v b w g pl pr hn hS (by simp only [GT.many] at hm; omega))
    have HCM := Lib.hid (cut_many k v a b)
    obtain ⟨x, hx⟩ : ∃ x, (cutT k v a b).1 = x := ⟨_, rfl⟩
    obtain ⟨t, ht⟩ : ∃ t, (cutT k v a b).2 = t := ⟨_, rfl⟩
    rw [hx, ht] at CI
    rw [ht] at HCM
    have HX := Lib.hid (show joinT l (GT.node k v a b) = evenT false x l t by simp only [joinT]; rw [hx, ht])
    clear hn hl hr hm hS hx ht
    go_enter Try.func86, Try.ntmps86
    go_wp2_with fail
    refine CI.out.mono ?_
    rintro e w1 ⟨gi, r1, rfl, hit, hr1, hb1⟩
    have c0 := hit.c0
    have c1 := hit.c1
    obtain ⟨xk, xv⟩ := x
    have CE := Lib.hid (even_anyIi S w1 false xk xv p r1 l t (TrS.below HL.out hb1) hr1 (fun j hj => HS.out j (by have := hb1.size; omega)) (by have h1 := HM.out; have h2 := HCM.out; simp only [GT.many] at h1; omega))
    have HB1 := Lib.hid hb1
    clear hit hr1 hb1 CI
    go_wp2_with fail
    refine CE.out.mono ?_
    rintro e w2 ⟨r2, rfl, ht, hb2⟩
    have HT := Lib.hid ht
    have HB2 := Lib.hid (HB1.out.trans (hb2.mono HB1.out.size))
    clear ht hb2 CE
    go_wp2_with fail
    go_ret
    exact ⟨r2, rfl, by rw [HX.out]; exact HT.out, HB2.out⟩

def GotTakeIi (S : Nat → Prop) (w : World) (t f : GT Int Int) (e : Ending) (w' : World) : Prop :=
  ∃ r gone, e = .returned (.tuple #[.pointer r, .pointer gone]) ∧ TrIi S w' r t ∧ TrIi S w' gone f ∧ Below w.heap.size w w'

set_option maxHeartbeats 4000000 in
set_option maxRecDepth 100000 in
theorem without_anyIi {S : Nat → Prop} {F : FuncId} {c : Int → Int → Int} {P : Int → Prop} (hO : OrdIi F c P) (gb : Nat) (k : Int) (t : GT Int Int) :
    ∀ (w : World) (p : Option Addr), gb < w.heap.size → w.cell? ⟨gb, 0, none⟩ = some (.func (.func F) #[] #[]) → TrIi S w p t → (∀ j, w.heap.size ≤ j → S j) → t.many ≤ 1000000 → P k → (∀ q ∈ t.list, P q.1) →
    Calls Try.prog 53 #[.pointer (some ⟨gb, 0, none⟩), .pointer p, .int .i64 k] w (GotTakeIi S w (takeT c k t) (findT c k t)) := by
  have mx := mixedS
  have eg := hO.eg
  have HF := Lib.hid hO.hF
  induction t with
  | nil =>
    intro w p hgl hg ht hS hm hk hp
    obtain rfl : p = none := ht
    clear hgl hg hS hm hk hp
    go_enter Try.func53, Try.ntmps53
    go_wp2_with fail
    exact bodyPost_ret (v := .tuple #[.pointer none, .pointer none]) (by simp [results, Try.results53, go_sem]) rfl ⟨none, none, rfl, TrS.nil, TrS.nil, Below.refl _ _⟩
  | node xk xv l r ihl ihr =>
    intro w p hgl hg ht hS hm hk hp
    obtain ⟨g, pl, pr, rfl, hn⟩ := TrS.node ht
    have hS := Lib.hid hS
    have HM := Lib.hid hm
    have HPk := Lib.hid hk
    have HPt := Lib.hid hp
    have HG0 := Lib.hid hg
    have HGL0 := Lib.hid hgl
    have HN := Lib.hid hn
    have IHL := Lib.hid ihl
    have IHR := Lib.hid ihr
    have CC := Lib.hid (HF.out k xk)
    have HPx := Lib.hid (hp (xk, xv) (by simp [GT.list]))
    obtain ⟨d, hd⟩ : ∃ d, c k xk = d := ⟨_, rfl⟩
    rw [hd] at CC
    have HD := Lib.hid hd
    clear ihl ihr hgl hg ht hm hk hp hn hd
    go_enter Try.func53, Try.ntmps53
    go_wp2_with fail
    refine wp_region_mono mx (by kernel_rfl) [VP.eq (.pointer (some ⟨gb, 0, none⟩)), VP.eq (.pointer (some ⟨gb, 0, none⟩)), VP.eq (.pointer (some ⟨gb, 0, none⟩)), VP.eq (.func (.func F) #[] #[]), VP.eq (.int .i64 k), VP.eq (.pointer (some ⟨g, 0, none⟩)), VP.eq (.pointer (some ⟨g, 0, none⟩)), VP.eq (.pointer (some ⟨g, 0, none⟩)), VP.eq (.pointer (some ⟨g, 0, none⟩)), VP.eq (.int .i64 xk), VP.eq (.int .i64 d), VP.eq (.int .i64 d)] ?_ ?_
    · intro i o L vals w2 hi hL hdep hC hJ hV
      have hlt : i < 12 := by have := (List.getElem?_eq_some_iff.1 hi).1; simpa using this
      generalize hA : frA _ _ L vals = a'
      have hT0 : a'.tmps.getD 0 undef = .pointer (some ⟨gb, 0, none⟩) := by rw [← hA, frA_base (by kernel_rfl)]; rfl
      have hT1 : a'.tmps.getD 1 undef = .pointer (some ⟨g, 0, none⟩) := by rw [← hA, frA_base (by kernel_rfl)]; rfl
      have hT2 : a'.tmps.getD 2 undef = .int .i64 k := by rw [← hA, frA_base (by kernel_rfl)]; rfl
      have hD := Lib.hid (fun k t (hk : L k = true) (ht : dstOf _ k = some t) => hA ▸ frA_done (by kernel_rfl) (vals := vals) hk ht)
      clear hA
      have n0 := (HN.out.below hJ).c0
      have g0 : w2.cell? ⟨gb, 0, none⟩ = some (.func (.func F) #[] #[]) := by rw [hJ.cell (p := ⟨gb, 0, none⟩) HGL0.out]; exact HG0.out
      obtain rfl | rfl | rfl | rfl | rfl | rfl | rfl | rfl | rfl | rfl | rfl | rfl : i = 0 ∨ i = 1 ∨ i = 2 ∨ i = 3 ∨ i = 4 ∨ i = 5 ∨ i = 6 ∨ i = 7 ∨ i = 8 ∨ i = 9 ∨ i = 10 ∨ i = 11 := by omega
      all_goals
        injection hi with hi
        subst hi
        try simp [Region.binds] at hdep
      · exact step_run rfl (v := .pointer (some ⟨gb, 0, none⟩)) (w' := w2) (by go_simp) ⟨rfl, Below.refl _ _⟩
      · have d12 := hD.out 0 12 (by simp [hdep]) rfl
        rw [show vals 0 = .pointer (some ⟨gb, 0, none⟩) from hV 0 (by simp [hdep])] at d12
        exact step_run rfl (v := .pointer (some ⟨gb, 0, none⟩)) (w' := w2) (by go_simp) ⟨rfl, Below.refl _ _⟩
      · have d13 := hD.out 1 13 (by simp [hdep]) rfl
        rw [show vals 1 = .pointer (some ⟨gb, 0, none⟩) from hV 1 (by simp [hdep])] at d13
        exact step_run rfl (v := .pointer (some ⟨gb, 0, none⟩)) (w' := w2) (by go_simp) ⟨rfl, Below.refl _ _⟩
      · have d14 := hD.out 2 14 (by simp [hdep]) rfl
        rw [show vals 2 = .pointer (some ⟨gb, 0, none⟩) from hV 2 (by simp [hdep])] at d14
        exact step_run rfl (v := .func (.func F) #[] #[]) (w' := w2) (by go_simp) ⟨rfl, Below.refl _ _⟩
      · exact step_run rfl (v := .int .i64 k) (w' := w2) (by go_simp) ⟨rfl, Below.refl _ _⟩
      · exact step_run rfl (v := .pointer (some ⟨g, 0, none⟩)) (w' := w2) (by go_simp) ⟨rfl, Below.refl _ _⟩
      · have d17 := hD.out 5 17 (by simp [hdep]) rfl
        rw [show vals 5 = .pointer (some ⟨g, 0, none⟩) from hV 5 (by simp [hdep])] at d17
        exact step_run rfl (v := .pointer (some ⟨g, 0, none⟩)) (w' := w2) (by go_simp) ⟨rfl, Below.refl _ _⟩
      · have d18 := hD.out 6 18 (by simp [hdep]) rfl
        rw [show vals 6 = .pointer (some ⟨g, 0, none⟩) from hV 6 (by simp [hdep])] at d18
        exact step_run rfl (v := .pointer (some ⟨g, 0, none⟩)) (w' := w2) (by go_simp) ⟨rfl, Below.refl _ _⟩
      · have d19 := hD.out 7 19 (by simp [hdep]) rfl
        rw [show vals 7 = .pointer (some ⟨g, 0, none⟩) from hV 7 (by simp [hdep])] at d19
        exact step_run rfl (v := .pointer (some ⟨g, 0, none⟩)) (w' := w2) (by go_simp) ⟨rfl, Below.refl _ _⟩
      · have d20 := hD.out 8 20 (by simp [hdep]) rfl
        rw [show vals 8 = .pointer (some ⟨g, 0, none⟩) from hV 8 (by simp [hdep])] at d20
        exact step_run rfl (v := .int .i64 xk) (w' := w2) (by go_simp) ⟨rfl, Below.refl _ _⟩
      · have d15 := hD.out 3 15 (by simp [hdep]) rfl
        rw [show vals 3 = .func (.func F) #[] #[] from hV 3 (by simp [hdep])] at d15
        have d16 := hD.out 4 16 (by simp [hdep]) rfl
        rw [show vals 4 = .int .i64 k from hV 4 (by simp [hdep])] at d16
        have d21 := hD.out 9 21 (by simp [hdep]) rfl
        rw [show vals 9 = .int .i64 xk from hV 9 (by simp [hdep])] at d21
        refine step_enter rfl (w' := w2) (by go_simp) ((CC.out w2 HPk.out HPx.out).mono ?_)
        rintro e w1 ⟨rfl, rfl⟩
        exact ⟨_, rfl, rfl, Below.refl _ _⟩
      · have d22 := hD.out 10 22 (by simp [hdep]) rfl
        rw [show vals 10 = .int .i64 d from hV 10 (by simp [hdep])] at d22
        exact step_run rfl (v := .int .i64 d) (w' := w2) (by go_simp) ⟨rfl, Below.refl _ _⟩
    · intro vals w2 hJ hV
      have e0 : vals 0 = .pointer (some ⟨gb, 0, none⟩) := hV 0 (by decide)
      have e1 : vals 1 = .pointer (some ⟨gb, 0, none⟩) := hV 1 (by decide)
      have e2 : vals 2 = .pointer (some ⟨gb, 0, none⟩) := hV 2 (by decide)
      have e3 : vals 3 = .func (.func F) #[] #[] := hV 3 (by decide)
      have e4 : vals 4 = .int .i64 k := hV 4 (by decide)
      have e5 : vals 5 = .pointer (some ⟨g, 0, none⟩) := hV 5 (by decide)
      have e6 : vals 6 = .pointer (some ⟨g, 0, none⟩) := hV 6 (by decide)
      have e7 : vals 7 = .pointer (some ⟨g, 0, none⟩) := hV 7 (by decide)
      have e8 : vals 8 = .pointer (some ⟨g, 0, none⟩) := hV 8 (by decide)
      have e9 : vals 9 = .int .i64 xk := hV 9 (by decide)
      have e10 : vals 10 = .int .i64 d := hV 10 (by decide)
      have e11 : vals 11 = .int .i64 d := hV 11 (by decide)
      simp only [putsL, Act.put, List.setIfInBounds_toArray, List.set_cons_zero, List.set_cons_succ, e0, e1, e2, e3, e4, e5, e6, e7, e8, e9, e10, e11]
      clear e0 e1 e2 e3 e4 e5 e6 e7 e8 e9 e10 e11
      have HN2 := Lib.hid (HN.out.below hJ)
      have HB2 := Lib.hid hJ
      have HG2 := Lib.hid (show w2.cell? ⟨gb, 0, none⟩ = some (.func (.func F) #[] #[]) by rw [hJ.cell (p := ⟨gb, 0, none⟩) HGL0.out]; exact HG0.out)
      have HGL2 := Lib.hid (show gb < w2.heap.size by have := hJ.size; have := HGL0.out; omega)
      clear hJ hV HG0 HGL0 HN
      by_cases h0 : d = 0
      · have HW := Lib.hid (show takeT c k (.node xk xv l r) = joinT l r by simp only [takeT]; rw [if_pos (by rw [HD.out]; exact h0)])
        have HWF := Lib.hid (show findT c k (.node xk xv l r) = .node xk xv l r by simp only [findT]; rw [if_pos (by rw [HD.out]; exact h0)])
        subst h0
        go_wp2_with fail
        refine wp_region_mono mx (by kernel_rfl) [VP.eq (.pointer (some ⟨g, 0, none⟩)), VP.eq (.pointer (some ⟨g, 0, none⟩)), VP.eq (.pointer (some ⟨g, 2, none⟩)), VP.eq (.pointer (some ⟨g, 2, none⟩)), VP.eq (.pointer pl), VP.eq (.pointer (some ⟨g, 0, none⟩)), VP.eq (.pointer (some ⟨g, 0, none⟩)), VP.eq (.pointer (some ⟨g, 2, none⟩)), VP.eq (.pointer (some ⟨g, 3, none⟩)), VP.eq (.pointer pr), TrPIi S (joinT l r), VP.eq (.pointer (some ⟨g, 0, none⟩)), TrPIi S (joinT l r), VP.eq (.pointer (some ⟨g, 0, none⟩))] ?_ ?_
        · intro i o L vals w3 hi hL hdep hC hJ hV
          have hlt : i < 14 := by have := (List.getElem?_eq_some_iff.1 hi).1; simpa using this
          generalize hA : frA _ _ L vals = a'
          have hT1 : a'.tmps.getD 1 undef = .pointer (some ⟨g, 0, none⟩) := by rw [← hA, frA_base (by kernel_rfl)]; rfl
          have hD := Lib.hid (fun k t (hk : L k = true) (ht : dstOf _ k = some t) => hA ▸ frA_done (by kernel_rfl) (vals := vals) hk ht)
          clear hA
          have n2 := (HN2.out.below hJ).c2
          have n3 := (HN2.out.below hJ).c3
          have hS3 : ∀ j, w3.heap.size ≤ j → S j := fun j hj => hS.out j (by have := hJ.size; have := HB2.out.size; omega)
          obtain rfl | rfl | rfl | rfl | rfl | rfl | rfl | rfl | rfl | rfl | rfl | rfl | rfl | rfl : i = 0 ∨ i = 1 ∨ i = 2 ∨ i = 3 ∨ i = 4 ∨ i = 5 ∨ i = 6 ∨ i = 7 ∨ i = 8 ∨ i = 9 ∨ i = 10 ∨ i = 11 ∨ i = 12 ∨ i = 13 := by omega
          all_goals
            injection hi with hi
            subst hi
            try simp [Region.binds] at hdep
          · exact step_run rfl (v := .pointer (some ⟨g, 0, none⟩)) (w' := w3) (by go_simp) ⟨rfl, Below.refl _ _⟩
          · have d25 := hD.out 0 25 (by simp [hdep]) rfl
            rw [show vals 0 = .pointer (some ⟨g, 0, none⟩) from hV 0 (by simp [hdep])] at d25
            exact step_run rfl (v := .pointer (some ⟨g, 0, none⟩)) (w' := w3) (by go_simp) ⟨rfl, Below.refl _ _⟩
          · have d26 := hD.out 1 26 (by simp [hdep]) rfl
            rw [show vals 1 = .pointer (some ⟨g, 0, none⟩) from hV 1 (by simp [hdep])] at d26
            exact step_run rfl (v := .pointer (some ⟨g, 2, none⟩)) (w' := w3) (by go_simp) ⟨rfl, Below.refl _ _⟩
          · have d27 := hD.out 2 27 (by simp [hdep]) rfl
            rw [show vals 2 = .pointer (some ⟨g, 2, none⟩) from hV 2 (by simp [hdep])] at d27
            exact step_run rfl (v := .pointer (some ⟨g, 2, none⟩)) (w' := w3) (by go_simp) ⟨rfl, Below.refl _ _⟩
          · have d28 := hD.out 3 28 (by simp [hdep]) rfl
            rw [show vals 3 = .pointer (some ⟨g, 2, none⟩) from hV 3 (by simp [hdep])] at d28
            exact step_run rfl (v := .pointer pl) (w' := w3) (by go_simp) ⟨rfl, Below.refl _ _⟩
          · exact step_run rfl (v := .pointer (some ⟨g, 0, none⟩)) (w' := w3) (by go_simp) ⟨rfl, Below.refl _ _⟩
          · have d30 := hD.out 5 30 (by simp [hdep]) rfl
            rw [show vals 5 = .pointer (some ⟨g, 0, none⟩) from hV 5 (by simp [hdep])] at d30
            exact step_run rfl (v := .pointer (some ⟨g, 0, none⟩)) (w' := w3) (by go_simp) ⟨rfl, Below.refl _ _⟩
          · have d31 := hD.out 6 31 (by simp [hdep]) rfl
            rw [show vals 6 = .pointer (some ⟨g, 0, none⟩) from hV 6 (by simp [hdep])] at d31
            exact step_run rfl (v := .pointer (some ⟨g, 2, none⟩)) (w' := w3) (by go_simp) ⟨rfl, Below.refl _ _⟩
          · have d32 := hD.out 7 32 (by simp [hdep]) rfl
            rw [show vals 7 = .pointer (some ⟨g, 2, none⟩) from hV 7 (by simp [hdep])] at d32
            exact step_run rfl (v := .pointer (some ⟨g, 3, none⟩)) (w' := w3) (by go_simp) ⟨rfl, Below.refl _ _⟩
          · have d33 := hD.out 8 33 (by simp [hdep]) rfl
            rw [show vals 8 = .pointer (some ⟨g, 3, none⟩) from hV 8 (by simp [hdep])] at d33
            exact step_run rfl (v := .pointer pr) (w' := w3) (by go_simp) ⟨rfl, Below.refl _ _⟩
          · have d29 := hD.out 4 29 (by simp [hdep]) rfl
            rw [show vals 4 = .pointer pl from hV 4 (by simp [hdep])] at d29
            have d34 := hD.out 9 34 (by simp [hdep]) rfl
            rw [show vals 9 = .pointer pr from hV 9 (by simp [hdep])] at d34
            refine step_enter rfl (w' := w3) (by go_simp) ((join_anyIi l r w3 pl pr (HN2.out.below hJ).hl (HN2.out.below hJ).hr hS3 (by have := HM.out; simp only [GT.many] at this; omega)).mono ?_)
            rintro e w1 ⟨r, rfl, ht, hb1⟩
            exact ⟨_, rfl, ⟨r, rfl, ht⟩, hb1⟩
          · exact step_run rfl (v := .pointer (some ⟨g, 0, none⟩)) (w' := w3) (by go_simp) ⟨rfl, Below.refl _ _⟩
          · have d35 := hD.out 10 35 (by simp [hdep]) rfl
            exact step_run rfl (v := vals 10) (w' := w3) (by go_simp) ⟨hV 10 (by simp [hdep]), Below.refl _ _⟩
          · have d36 := hD.out 11 36 (by simp [hdep]) rfl
            rw [show vals 11 = .pointer (some ⟨g, 0, none⟩) from hV 11 (by simp [hdep])] at d36
            exact step_run rfl (v := .pointer (some ⟨g, 0, none⟩)) (w' := w3) (by go_simp) ⟨rfl, Below.refl _ _⟩
        · intro vals w3 hJ hV
          have e0 : vals 0 = .pointer (some ⟨g, 0, none⟩) := hV 0 (by decide)
          have e1 : vals 1 = .pointer (some ⟨g, 0, none⟩) := hV 1 (by decide)
          have e2 : vals 2 = .pointer (some ⟨g, 2, none⟩) := hV 2 (by decide)
          have e3 : vals 3 = .pointer (some ⟨g, 2, none⟩) := hV 3 (by decide)
          have e4 : vals 4 = .pointer pl := hV 4 (by decide)
          have e5 : vals 5 = .pointer (some ⟨g, 0, none⟩) := hV 5 (by decide)
          have e6 : vals 6 = .pointer (some ⟨g, 0, none⟩) := hV 6 (by decide)
          have e7 : vals 7 = .pointer (some ⟨g, 2, none⟩) := hV 7 (by decide)
          have e8 : vals 8 = .pointer (some ⟨g, 3, none⟩) := hV 8 (by decide)
          have e9 : vals 9 = .pointer pr := hV 9 (by decide)
          have q10 := hV 10 (by decide)
          have e11 : vals 11 = .pointer (some ⟨g, 0, none⟩) := hV 11 (by decide)
          have q12 := hV 12 (by decide)
          have e13 : vals 13 = .pointer (some ⟨g, 0, none⟩) := hV 13 (by decide)
          simp only [putsL, Act.put, List.setIfInBounds_toArray, List.set_cons_zero, List.set_cons_succ, e0, e1, e2, e3, e4, e5, e6, e7, e8, e9, e11, e13]
          clear e0 e1 e2 e3 e4 e5 e6 e7 e8 e9 e11 e13
          obtain ⟨r3, hr, ht⟩ := q12
          rw [hr]
          have HB3 := Lib.hid (HB2.out.trans (hJ.mono HB2.out.size))
          have HT3 := Lib.hid ht
          have HN3 := Lib.hid (HN2.out.below hJ)
          clear hJ hV q10 hr ht
          go_wp2_with fail
          exact bodyPost_ret (v := .tuple #[.pointer r3, .pointer (some ⟨g, 0, none⟩)]) (by simp [results, Try.results53, go_sem]) rfl ⟨r3, some ⟨g, 0, none⟩, rfl, by rw [HW.out]; exact HT3.out, by rw [HWF.out]; exact HN3.out.tr, HB3.out⟩
      have HD0 := Lib.hid h0
      by_cases h1 : d < 0
      · have IH := IHL
        have n2 := HN2.out.c2
        have n3 := HN2.out.c3
        go_wp2_with fail
        refine (sideOf_low d _ (by omega)).mono ?_
        rintro e wz ⟨rfl, rfl⟩
        go_wp2_with fail
        refine (IH.out w2 pl HGL2.out HG2.out HN2.out.hl (fun j hj => hS.out j (by have := HB2.out.size; omega)) (by have := HM.out; simp only [GT.many] at this; omega) HPk.out (fun q hq => HPt.out q (by simp only [GT.list, List.mem_append, List.mem_cons]; exact .inl hq))).mono ?_
        rintro e w3 ⟨r3, gone, rfl, hr3, hgone, hb3⟩
        have HN3 := Lib.hid (HN2.out.below hb3)
        have HR3 := Lib.hid hr3
        have HB3 := Lib.hid (HB2.out.trans (hb3.mono HB2.out.size))
        clear hr3 hb3 n2 n3
        obtain ⟨ft, hft⟩ : ∃ ft, findT c k l = ft := ⟨_, rfl⟩
        rw [hft] at hgone
        have HFT := Lib.hid hft
        clear hft
        cases ft with
        | nil =>
          obtain rfl : gone = none := hgone
          go_wp2_with fail
          exact bodyPost_ret (v := .tuple #[.pointer (some ⟨g, 0, none⟩), .pointer none]) (by simp [results, Try.results53, go_sem]) rfl ⟨some ⟨g, 0, none⟩, none, rfl, by
            rw [show takeT c k (.node xk xv l r) = .node xk xv l r by simp only [takeT]; rw [if_neg (by rw [HD.out]; exact HD0.out), if_pos (by rw [HD.out]; exact h1)]; simp only [HFT.out]]
            exact HN3.out.tr, by
            rw [show findT c k (.node xk xv l r) = .nil by simp only [findT]; rw [if_neg (by rw [HD.out]; exact HD0.out), if_pos (by rw [HD.out]; exact h1)]; exact HFT.out]
            exact TrS.nil, HB3.out⟩
        | node fk fv fl fr =>
          obtain ⟨gg, ql, qr, rfl, hgn⟩ := TrS.node hgone
          have HGN := Lib.hid hgn
          have HW := Lib.hid (show takeT c k (.node xk xv l r) = evenT true (xk, xv) r (takeT c k l) by simp only [takeT]; rw [if_neg (by rw [HD.out]; exact HD0.out), if_pos (by rw [HD.out]; exact h1)]; simp only [HFT.out])
          have HWF := Lib.hid (show findT c k (.node xk xv l r) = .node fk fv fl fr by simp only [findT]; rw [if_neg (by rw [HD.out]; exact HD0.out), if_pos (by rw [HD.out]; exact h1)]; exact HFT.out)
          clear hgn hgone
          go_wp2_with fail
          refine wp_region_mono mx (by kernel_rfl) [VP.eq (.pointer (some ⟨g, 0, none⟩)), VP.eq (.pointer (some ⟨g, 0, none⟩)), VP.eq (.pointer (some ⟨g, 0, none⟩)), VP.eq (.agg #[.int .i64 xk, .int .i64 xv]), VP.eq (.int .i64 0), VP.eq (.int .i64 1), VP.eq (.pointer (some ⟨g, 0, none⟩)), VP.eq (.int .i64 0), VP.eq (.int .i64 1), VP.eq (.pointer (some ⟨g, 0, none⟩)), VP.eq (.pointer (some ⟨g, 2, none⟩)), VP.eq (.pointer (some ⟨g, 3, none⟩)), VP.eq (.pointer pr), VP.eq (.pointer r3), TrPIi S (evenT true (xk, xv) r (takeT c k l)), VP.eq (.pointer (some ⟨gg, 0, none⟩)), TrPIi S (evenT true (xk, xv) r (takeT c k l)), VP.eq (.pointer (some ⟨gg, 0, none⟩))] ?_ ?_
          · intro i o L vals w4 hi hL hdep hC hJ hV
            have hlt : i < 18 := by have := (List.getElem?_eq_some_iff.1 hi).1; simpa using this
            generalize hA : frA _ _ L vals = a'
            have hT1 : a'.tmps.getD 1 undef = .pointer (some ⟨g, 0, none⟩) := by rw [← hA, frA_base (by kernel_rfl)]; rfl
            have hT9 : a'.tmps.getD 9 undef = .int .i64 0 := by rw [← hA, frA_base (by kernel_rfl)]; rfl
            have hD := Lib.hid (fun k t (hk : L k = true) (ht : dstOf _ k = some t) => hA ▸ frA_done (by kernel_rfl) (vals := vals) hk ht)
            have hW := Lib.hid (fun t k (hd : dstOf _ k = some t) (hl : L k = false) => hA ▸ frA_wait (by kernel_rfl) (vals := vals) hd hl)
            clear hA
            have n0 := (HN3.out.below hJ).c0
            have n1 := (HN3.out.below hJ).c1
            have n2 := (HN3.out.below hJ).c2
            have n3 := (HN3.out.below hJ).c3
            have hS4 : ∀ j, w4.heap.size ≤ j → S j := fun j hj => hS.out j (by have := hJ.size; have := HB3.out.size; omega)
            obtain rfl | rfl | rfl | rfl | rfl | rfl | rfl | rfl | rfl | rfl | rfl | rfl | rfl | rfl | rfl | rfl | rfl | rfl : i = 0 ∨ i = 1 ∨ i = 2 ∨ i = 3 ∨ i = 4 ∨ i = 5 ∨ i = 6 ∨ i = 7 ∨ i = 8 ∨ i = 9 ∨ i = 10 ∨ i = 11 ∨ i = 12 ∨ i = 13 ∨ i = 14 ∨ i = 15 ∨ i = 16 ∨ i = 17 := by omega
            all_goals
              injection hi with hi
              subst hi
              try simp [Region.binds] at hdep
            · exact step_run rfl (v := .pointer (some ⟨g, 0, none⟩)) (w' := w4) (by go_simp) ⟨rfl, Below.refl _ _⟩
            · have d54 := hD.out 0 54 (by simp [hdep]) rfl
              rw [show vals 0 = .pointer (some ⟨g, 0, none⟩) from hV 0 (by simp [hdep])] at d54
              exact step_run rfl (v := .pointer (some ⟨g, 0, none⟩)) (w' := w4) (by go_simp) ⟨rfl, Below.refl _ _⟩
            · have d55 := hD.out 1 55 (by simp [hdep]) rfl
              rw [show vals 1 = .pointer (some ⟨g, 0, none⟩) from hV 1 (by simp [hdep])] at d55
              exact step_run rfl (v := .pointer (some ⟨g, 0, none⟩)) (w' := w4) (by go_simp) ⟨rfl, Below.refl _ _⟩
            · have d56 := hD.out 2 56 (by simp [hdep]) rfl
              rw [show vals 2 = .pointer (some ⟨g, 0, none⟩) from hV 2 (by simp [hdep])] at d56
              exact step_run rfl (v := .agg #[.int .i64 xk, .int .i64 xv]) (w' := w4) (by go_simp) ⟨rfl, Below.refl _ _⟩
            · exact step_run rfl (v := .int .i64 0) (w' := w4) (by go_simp) ⟨rfl, Below.refl _ _⟩
            · have d58 := hD.out 4 58 (by simp [hdep]) rfl
              rw [show vals 4 = .int .i64 0 from hV 4 (by simp [hdep])] at d58
              refine step_enter rfl (w' := w4) (by go_simp) ((other_low w4).mono ?_)
              rintro e w1 ⟨rfl, rfl⟩
              exact ⟨_, rfl, rfl, Below.refl _ _⟩
            · exact step_run rfl (v := .pointer (some ⟨g, 0, none⟩)) (w' := w4) (by go_simp) ⟨rfl, Below.refl _ _⟩
            · exact step_run rfl (v := .int .i64 0) (w' := w4) (by go_simp) ⟨rfl, Below.refl _ _⟩
            · have d61 := hD.out 7 61 (by simp [hdep]) rfl
              rw [show vals 7 = .int .i64 0 from hV 7 (by simp [hdep])] at d61
              refine step_enter rfl (w' := w4) (by go_simp) ((other_low w4).mono ?_)
              rintro e w1 ⟨rfl, rfl⟩
              exact ⟨_, rfl, rfl, Below.refl _ _⟩
            · have d60 := hD.out 6 60 (by simp [hdep]) rfl
              rw [show vals 6 = .pointer (some ⟨g, 0, none⟩) from hV 6 (by simp [hdep])] at d60
              exact step_run rfl (v := .pointer (some ⟨g, 0, none⟩)) (w' := w4) (by go_simp) ⟨rfl, Below.refl _ _⟩
            · have d63 := hD.out 9 63 (by simp [hdep]) rfl
              rw [show vals 9 = .pointer (some ⟨g, 0, none⟩) from hV 9 (by simp [hdep])] at d63
              exact step_run rfl (v := .pointer (some ⟨g, 2, none⟩)) (w' := w4) (by go_simp) ⟨rfl, Below.refl _ _⟩
            · have d64 := hD.out 10 64 (by simp [hdep]) rfl
              rw [show vals 10 = .pointer (some ⟨g, 2, none⟩) from hV 10 (by simp [hdep])] at d64
              have d62 := hD.out 8 62 (by simp [hdep]) rfl
              rw [show vals 8 = .int .i64 1 from hV 8 (by simp [hdep])] at d62
              exact step_run rfl (v := .pointer (some ⟨g, 3, none⟩)) (w' := w4) (by go_simp) ⟨rfl, Below.refl _ _⟩
            · have d65 := hD.out 11 65 (by simp [hdep]) rfl
              rw [show vals 11 = .pointer (some ⟨g, 3, none⟩) from hV 11 (by simp [hdep])] at d65
              exact step_run rfl (v := .pointer pr) (w' := w4) (by go_simp) ⟨rfl, Below.refl _ _⟩
            · have hno6 : L 16 = false := by
                cases h : L 16 with
                | false => rfl
                | true =>
                  have h2 := hC 16 _ rfl h
                  simp [Region.binds, hL] at h2
              have hT6 : a'.tmps.getD 6 undef = .pointer r3 := (hW.out 6 16 rfl hno6).trans rfl
              exact step_run rfl (v := .pointer r3) (w' := w4) (by go_simp) ⟨rfl, Below.refl _ _⟩
            · have d57 := hD.out 3 57 (by simp [hdep]) rfl
              rw [show vals 3 = .agg #[.int .i64 xk, .int .i64 xv] from hV 3 (by simp [hdep])] at d57
              have d59 := hD.out 5 59 (by simp [hdep]) rfl
              rw [show vals 5 = .int .i64 1 from hV 5 (by simp [hdep])] at d59
              have d66 := hD.out 12 66 (by simp [hdep]) rfl
              rw [show vals 12 = .pointer pr from hV 12 (by simp [hdep])] at d66
              have d67 := hD.out 13 67 (by simp [hdep]) rfl
              rw [show vals 13 = .pointer r3 from hV 13 (by simp [hdep])] at d67
              refine step_enter rfl (w' := w4) (by go_simp <;> rfl) ((even_anyIi S w4 true xk xv pr r3 r (takeT c k l) (HN3.out.below hJ).hr (TrS.below HR3.out hJ) hS4 (by have h1 := HM.out; have h2 := take_many_le c k l; simp only [GT.many] at h1; omega)).mono ?_)
              rintro e w1 ⟨r, rfl, ht, hb1⟩
              exact ⟨_, rfl, ⟨r, rfl, ht⟩, hb1⟩
            · have hno7 : L 17 = false := by
                cases h : L 17 with
                | false => rfl
                | true =>
                  have h2 := hC 17 _ rfl h
                  simp [Region.binds, hL] at h2
              have hT7 : a'.tmps.getD 7 undef = .pointer (some ⟨gg, 0, none⟩) := (hW.out 7 17 rfl hno7).trans rfl
              exact step_run rfl (v := .pointer (some ⟨gg, 0, none⟩)) (w' := w4) (by go_simp) ⟨rfl, Below.refl _ _⟩
            · have d68 := hD.out 14 68 (by simp [hdep]) rfl
              exact step_run rfl (v := vals 14) (w' := w4) (by go_simp) ⟨hV 14 (by simp [hdep]), Below.refl _ _⟩
            · have d69 := hD.out 15 69 (by simp [hdep]) rfl
              rw [show vals 15 = .pointer (some ⟨gg, 0, none⟩) from hV 15 (by simp [hdep])] at d69
              exact step_run rfl (v := .pointer (some ⟨gg, 0, none⟩)) (w' := w4) (by go_simp) ⟨rfl, Below.refl _ _⟩
          · intro vals w4 hJ hV
            have e0 : vals 0 = .pointer (some ⟨g, 0, none⟩) := hV 0 (by decide)
            have e1 : vals 1 = .pointer (some ⟨g, 0, none⟩) := hV 1 (by decide)
            have e2 : vals 2 = .pointer (some ⟨g, 0, none⟩) := hV 2 (by decide)
            have e3 : vals 3 = .agg #[.int .i64 xk, .int .i64 xv] := hV 3 (by decide)
            have e4 : vals 4 = .int .i64 0 := hV 4 (by decide)
            have e5 : vals 5 = .int .i64 1 := hV 5 (by decide)
            have e6 : vals 6 = .pointer (some ⟨g, 0, none⟩) := hV 6 (by decide)
            have e7 : vals 7 = .int .i64 0 := hV 7 (by decide)
            have e8 : vals 8 = .int .i64 1 := hV 8 (by decide)
            have e9 : vals 9 = .pointer (some ⟨g, 0, none⟩) := hV 9 (by decide)
            have e10 : vals 10 = .pointer (some ⟨g, 2, none⟩) := hV 10 (by decide)
            have e11 : vals 11 = .pointer (some ⟨g, 3, none⟩) := hV 11 (by decide)
            have e12 : vals 12 = .pointer pr := hV 12 (by decide)
            have e13 : vals 13 = .pointer r3 := hV 13 (by decide)
            have q14 := hV 14 (by decide)
            have e15 : vals 15 = .pointer (some ⟨gg, 0, none⟩) := hV 15 (by decide)
            have q16 := hV 16 (by decide)
            have e17 : vals 17 = .pointer (some ⟨gg, 0, none⟩) := hV 17 (by decide)
            simp only [putsL, Act.put, List.setIfInBounds_toArray, List.set_cons_zero, List.set_cons_succ, e0, e1, e2, e3, e4, e5, e6, e7, e8, e9, e10, e11, e12, e13, e15, e17]
            clear e0 e1 e2 e3 e4 e5 e6 e7 e8 e9 e10 e11 e12 e13 e15 e17
            obtain ⟨r, hr, ht⟩ := q16
            rw [hr]
            have HB4 := Lib.hid (HB3.out.trans (hJ.mono HB3.out.size))
            have HT4 := Lib.hid ht
            have HGN4 := Lib.hid (HGN.out.below hJ)
            clear hJ hV q14 hr ht
            go_wp2_with fail
            exact bodyPost_ret (v := .tuple #[.pointer r, .pointer (some ⟨gg, 0, none⟩)]) (by simp [results, Try.results53, go_sem]) rfl ⟨r, some ⟨gg, 0, none⟩, rfl, by rw [HW.out]; exact HT4.out, by rw [HWF.out]; exact HGN4.out.tr, HB4.out⟩
      · have IH := IHR
        have n2 := HN2.out.c2
        have n3 := HN2.out.c3
        go_wp2_with fail
        refine (sideOf_high d _ (by omega)).mono ?_
        rintro e wz ⟨rfl, rfl⟩
        go_wp2_with fail
        refine (IH.out w2 pr HGL2.out HG2.out HN2.out.hr (fun j hj => hS.out j (by have := HB2.out.size; omega)) (by have := HM.out; simp only [GT.many] at this; omega) HPk.out (fun q hq => HPt.out q (by simp only [GT.list, List.mem_append, List.mem_cons]; exact .inr (.inr hq)))).mono ?_
        rintro e w3 ⟨r3, gone, rfl, hr3, hgone, hb3⟩
        have HN3 := Lib.hid (HN2.out.below hb3)
        have HR3 := Lib.hid hr3
        have HB3 := Lib.hid (HB2.out.trans (hb3.mono HB2.out.size))
        clear hr3 hb3 n2 n3
        obtain ⟨ft, hft⟩ : ∃ ft, findT c k r = ft := ⟨_, rfl⟩
        rw [hft] at hgone
        have HFT := Lib.hid hft
        clear hft
        cases ft with
        | nil =>
          obtain rfl : gone = none := hgone
          go_wp2_with fail
          exact bodyPost_ret (v := .tuple #[.pointer (some ⟨g, 0, none⟩), .pointer none]) (by simp [results, Try.results53, go_sem]) rfl ⟨some ⟨g, 0, none⟩, none, rfl, by
            rw [show takeT c k (.node xk xv l r) = .node xk xv l r by simp only [takeT]; rw [if_neg (by rw [HD.out]; exact HD0.out), if_neg (by rw [HD.out]; omega)]; simp only [HFT.out]]
            exact HN3.out.tr, by
            rw [show findT c k (.node xk xv l r) = .nil by simp only [findT]; rw [if_neg (by rw [HD.out]; exact HD0.out), if_neg (by rw [HD.out]; omega)]; exact HFT.out]
            exact TrS.nil, HB3.out⟩
        | node fk fv fl fr =>
          obtain ⟨gg, ql, qr, rfl, hgn⟩ := TrS.node hgone
          have HGN := Lib.hid hgn
          have HW := Lib.hid (show takeT c k (.node xk xv l r) = evenT false (xk, xv) l (takeT c k r) by simp only [takeT]; rw [if_neg (by rw [HD.out]; exact HD0.out), if_neg (by rw [HD.out]; omega)]; simp only [HFT.out])
          have HWF := Lib.hid (show findT c k (.node xk xv l r) = .node fk fv fl fr by simp only [findT]; rw [if_neg (by rw [HD.out]; exact HD0.out), if_neg (by rw [HD.out]; omega)]; exact HFT.out)
          clear hgn hgone
          go_wp2_with fail
          refine wp_region_mono mx (by kernel_rfl) [VP.eq (.pointer (some ⟨g, 0, none⟩)), VP.eq (.pointer (some ⟨g, 0, none⟩)), VP.eq (.pointer (some ⟨g, 0, none⟩)), VP.eq (.agg #[.int .i64 xk, .int .i64 xv]), VP.eq (.int .i64 1), VP.eq (.int .i64 0), VP.eq (.pointer (some ⟨g, 0, none⟩)), VP.eq (.int .i64 1), VP.eq (.int .i64 0), VP.eq (.pointer (some ⟨g, 0, none⟩)), VP.eq (.pointer (some ⟨g, 2, none⟩)), VP.eq (.pointer (some ⟨g, 2, none⟩)), VP.eq (.pointer pl), VP.eq (.pointer r3), TrPIi S (evenT false (xk, xv) l (takeT c k r)), VP.eq (.pointer (some ⟨gg, 0, none⟩)), TrPIi S (evenT false (xk, xv) l (takeT c k r)), VP.eq (.pointer (some ⟨gg, 0, none⟩))] ?_ ?_
          · intro i o L vals w4 hi hL hdep hC hJ hV
            have hlt : i < 18 := by have := (List.getElem?_eq_some_iff.1 hi).1; simpa using this
            generalize hA : frA _ _ L vals = a'
            have hT1 : a'.tmps.getD 1 undef = .pointer (some ⟨g, 0, none⟩) := by rw [← hA, frA_base (by kernel_rfl)]; rfl
            have hT9 : a'.tmps.getD 9 undef = .int .i64 1 := by rw [← hA, frA_base (by kernel_rfl)]; rfl
            have hD := Lib.hid (fun k t (hk : L k = true) (ht : dstOf _ k = some t) => hA ▸ frA_done (by kernel_rfl) (vals := vals) hk ht)
            have hW := Lib.hid (fun t k (hd : dstOf _ k = some t) (hl : L k = false) => hA ▸ frA_wait (by kernel_rfl) (vals := vals) hd hl)
            clear hA
            have n0 := (HN3.out.below hJ).c0
            have n1 := (HN3.out.below hJ).c1
            have n2 := (HN3.out.below hJ).c2
            have n3 := (HN3.out.below hJ).c3
            have hS4 : ∀ j, w4.heap.size ≤ j → S j := fun j hj => hS.out j (by have := hJ.size; have := HB3.out.size; omega)
            obtain rfl | rfl | rfl | rfl | rfl | rfl | rfl | rfl | rfl | rfl | rfl | rfl | rfl | rfl | rfl | rfl | rfl | rfl : i = 0 ∨ i = 1 ∨ i = 2 ∨ i = 3 ∨ i = 4 ∨ i = 5 ∨ i = 6 ∨ i = 7 ∨ i = 8 ∨ i = 9 ∨ i = 10 ∨ i = 11 ∨ i = 12 ∨ i = 13 ∨ i = 14 ∨ i = 15 ∨ i = 16 ∨ i = 17 := by omega
            all_goals
              injection hi with hi
              subst hi
              try simp [Region.binds] at hdep
            · exact step_run rfl (v := .pointer (some ⟨g, 0, none⟩)) (w' := w4) (by go_simp) ⟨rfl, Below.refl _ _⟩
            · have d54 := hD.out 0 54 (by simp [hdep]) rfl
              rw [show vals 0 = .pointer (some ⟨g, 0, none⟩) from hV 0 (by simp [hdep])] at d54
              exact step_run rfl (v := .pointer (some ⟨g, 0, none⟩)) (w' := w4) (by go_simp) ⟨rfl, Below.refl _ _⟩
            · have d55 := hD.out 1 55 (by simp [hdep]) rfl
              rw [show vals 1 = .pointer (some ⟨g, 0, none⟩) from hV 1 (by simp [hdep])] at d55
              exact step_run rfl (v := .pointer (some ⟨g, 0, none⟩)) (w' := w4) (by go_simp) ⟨rfl, Below.refl _ _⟩
            · have d56 := hD.out 2 56 (by simp [hdep]) rfl
              rw [show vals 2 = .pointer (some ⟨g, 0, none⟩) from hV 2 (by simp [hdep])] at d56
              exact step_run rfl (v := .agg #[.int .i64 xk, .int .i64 xv]) (w' := w4) (by go_simp) ⟨rfl, Below.refl _ _⟩
            · exact step_run rfl (v := .int .i64 1) (w' := w4) (by go_simp) ⟨rfl, Below.refl _ _⟩
            · have d58 := hD.out 4 58 (by simp [hdep]) rfl
              rw [show vals 4 = .int .i64 1 from hV 4 (by simp [hdep])] at d58
              refine step_enter rfl (w' := w4) (by go_simp) ((other_high w4).mono ?_)
              rintro e w1 ⟨rfl, rfl⟩
              exact ⟨_, rfl, rfl, Below.refl _ _⟩
            · exact step_run rfl (v := .pointer (some ⟨g, 0, none⟩)) (w' := w4) (by go_simp) ⟨rfl, Below.refl _ _⟩
            · exact step_run rfl (v := .int .i64 1) (w' := w4) (by go_simp) ⟨rfl, Below.refl _ _⟩
            · have d61 := hD.out 7 61 (by simp [hdep]) rfl
              rw [show vals 7 = .int .i64 1 from hV 7 (by simp [hdep])] at d61
              refine step_enter rfl (w' := w4) (by go_simp) ((other_high w4).mono ?_)
              rintro e w1 ⟨rfl, rfl⟩
              exact ⟨_, rfl, rfl, Below.refl _ _⟩
            · have d60 := hD.out 6 60 (by simp [hdep]) rfl
              rw [show vals 6 = .pointer (some ⟨g, 0, none⟩) from hV 6 (by simp [hdep])] at d60
              exact step_run rfl (v := .pointer (some ⟨g, 0, none⟩)) (w' := w4) (by go_simp) ⟨rfl, Below.refl _ _⟩
            · have d63 := hD.out 9 63 (by simp [hdep]) rfl
              rw [show vals 9 = .pointer (some ⟨g, 0, none⟩) from hV 9 (by simp [hdep])] at d63
              exact step_run rfl (v := .pointer (some ⟨g, 2, none⟩)) (w' := w4) (by go_simp) ⟨rfl, Below.refl _ _⟩
            · have d64 := hD.out 10 64 (by simp [hdep]) rfl
              rw [show vals 10 = .pointer (some ⟨g, 2, none⟩) from hV 10 (by simp [hdep])] at d64
              have d62 := hD.out 8 62 (by simp [hdep]) rfl
              rw [show vals 8 = .int .i64 0 from hV 8 (by simp [hdep])] at d62
              exact step_run rfl (v := .pointer (some ⟨g, 2, none⟩)) (w' := w4) (by go_simp) ⟨rfl, Below.refl _ _⟩
            · have d65 := hD.out 11 65 (by simp [hdep]) rfl
              rw [show vals 11 = .pointer (some ⟨g, 2, none⟩) from hV 11 (by simp [hdep])] at d65
              exact step_run rfl (v := .pointer pl) (w' := w4) (by go_simp) ⟨rfl, Below.refl _ _⟩
            · have hno6 : L 16 = false := by
                cases h : L 16 with
                | false => rfl
                | true =>
                  have h2 := hC 16 _ rfl h
                  simp [Region.binds, hL] at h2
              have hT6 : a'.tmps.getD 6 undef = .pointer r3 := (hW.out 6 16 rfl hno6).trans rfl
              exact step_run rfl (v := .pointer r3) (w' := w4) (by go_simp) ⟨rfl, Below.refl _ _⟩
            · have d57 := hD.out 3 57 (by simp [hdep]) rfl
              rw [show vals 3 = .agg #[.int .i64 xk, .int .i64 xv] from hV 3 (by simp [hdep])] at d57
              have d59 := hD.out 5 59 (by simp [hdep]) rfl
              rw [show vals 5 = .int .i64 0 from hV 5 (by simp [hdep])] at d59
              have d66 := hD.out 12 66 (by simp [hdep]) rfl
              rw [show vals 12 = .pointer pl from hV 12 (by simp [hdep])] at d66
              have d67 := hD.out 13 67 (by simp [hdep]) rfl
              rw [show vals 13 = .pointer r3 from hV 13 (by simp [hdep])] at d67
              refine step_enter rfl (w' := w4) (by go_simp <;> rfl) ((even_anyIi S w4 false xk xv pl r3 l (takeT c k r) (HN3.out.below hJ).hl (TrS.below HR3.out hJ) hS4 (by have h1 := HM.out; have h2 := take_many_le c k r; simp only [GT.many] at h1; omega)).mono ?_)
              rintro e w1 ⟨r, rfl, ht, hb1⟩
              exact ⟨_, rfl, ⟨r, rfl, ht⟩, hb1⟩
            · have hno7 : L 17 = false := by
                cases h : L 17 with
                | false => rfl
                | true =>
                  have h2 := hC 17 _ rfl h
                  simp [Region.binds, hL] at h2
              have hT7 : a'.tmps.getD 7 undef = .pointer (some ⟨gg, 0, none⟩) := (hW.out 7 17 rfl hno7).trans rfl
              exact step_run rfl (v := .pointer (some ⟨gg, 0, none⟩)) (w' := w4) (by go_simp) ⟨rfl, Below.refl _ _⟩
            · have d68 := hD.out 14 68 (by simp [hdep]) rfl
              exact step_run rfl (v := vals 14) (w' := w4) (by go_simp) ⟨hV 14 (by simp [hdep]), Below.refl _ _⟩
            · have d69 := hD.out 15 69 (by simp [hdep]) rfl
              rw [show vals 15 = .pointer (some ⟨gg, 0, none⟩) from hV 15 (by simp [hdep])] at d69
              exact step_run rfl (v := .pointer (some ⟨gg, 0, none⟩)) (w' := w4) (by go_simp) ⟨rfl, Below.refl _ _⟩
          · intro vals w4 hJ hV
            have e0 : vals 0 = .pointer (some ⟨g, 0, none⟩) := hV 0 (by decide)
            have e1 : vals 1 = .pointer (some ⟨g, 0, none⟩) := hV 1 (by decide)
            have e2 : vals 2 = .pointer (some ⟨g, 0, none⟩) := hV 2 (by decide)
            have e3 : vals 3 = .agg #[.int .i64 xk, .int .i64 xv] := hV 3 (by decide)
            have e4 : vals 4 = .int .i64 1 := hV 4 (by decide)
            have e5 : vals 5 = .int .i64 0 := hV 5 (by decide)
            have e6 : vals 6 = .pointer (some ⟨g, 0, none⟩) := hV 6 (by decide)
            have e7 : vals 7 = .int .i64 1 := hV 7 (by decide)
            have e8 : vals 8 = .int .i64 0 := hV 8 (by decide)
            have e9 : vals 9 = .pointer (some ⟨g, 0, none⟩) := hV 9 (by decide)
            have e10 : vals 10 = .pointer (some ⟨g, 2, none⟩) := hV 10 (by decide)
            have e11 : vals 11 = .pointer (some ⟨g, 2, none⟩) := hV 11 (by decide)
            have e12 : vals 12 = .pointer pl := hV 12 (by decide)
            have e13 : vals 13 = .pointer r3 := hV 13 (by decide)
            have q14 := hV 14 (by decide)
            have e15 : vals 15 = .pointer (some ⟨gg, 0, none⟩) := hV 15 (by decide)
            have q16 := hV 16 (by decide)
            have e17 : vals 17 = .pointer (some ⟨gg, 0, none⟩) := hV 17 (by decide)
            simp only [putsL, Act.put, List.setIfInBounds_toArray, List.set_cons_zero, List.set_cons_succ, e0, e1, e2, e3, e4, e5, e6, e7, e8, e9, e10, e11, e12, e13, e15, e17]
            clear e0 e1 e2 e3 e4 e5 e6 e7 e8 e9 e10 e11 e12 e13 e15 e17
            obtain ⟨r, hr, ht⟩ := q16
            rw [hr]
            have HB4 := Lib.hid (HB3.out.trans (hJ.mono HB3.out.size))
            have HT4 := Lib.hid ht
            have HGN4 := Lib.hid (HGN.out.below hJ)
            clear hJ hV q14 hr ht
            go_wp2_with fail
            exact bodyPost_ret (v := .tuple #[.pointer r, .pointer (some ⟨gg, 0, none⟩)]) (by simp [results, Try.results53, go_sem]) rfl ⟨r, some ⟨gg, 0, none⟩, rfl, by rw [HW.out]; exact HT4.out, by rw [HWF.out]; exact HGN4.out.tr, HB4.out⟩
end Go.Proofs.Ytaghflionakhhaa
