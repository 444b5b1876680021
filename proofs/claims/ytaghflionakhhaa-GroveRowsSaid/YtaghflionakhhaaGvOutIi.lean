/-
  Layer grove, at int, int: Take.
-/
import Derived.Test.YtaghflionakhhaaGvPutIi
import Derived.Test.YtaghflionakhhaaGvTakeIi
import Derived.Test.YtaghflionakhhaaGvMore
namespace Go.Proofs.Ytaghflionakhhaa
open Go.RowKit Go.Gz

def valVIi (t : GT Int Int) : Value := match t with | .nil => (.int .i64 0) | .node _ v _ _ => .int .i64 v

theorem value_anyIi {S : Nat → Prop} {w : World} {p : Option Addr} {t : GT Int Int} (h : TrIi S w p t) :
    Calls Try.prog 54 #[.pointer p] w fun e w' => e = .returned (.tuple #[valVIi t, .bool (isV t)]) ∧ Below w.heap.size w w' := by
  cases t with
  | nil =>
    obtain rfl : p = none := h
    go_enter Try.func54, Try.ntmps54
    go_wp2_with fail
    go_ret2
    exact ⟨rfl, Below.refl _ _⟩
  | node k v l r =>
    obtain ⟨b, pl, pr, rfl, hn⟩ := TrS.node h
    have c1 := hn.c1
    clear h hn
    go_enter Try.func54, Try.ntmps54
    go_wp2_with fail
    go_ret2
    exact ⟨rfl, Below.refl _ _⟩

def PostIIi (S : Nat → Prop) (w : World) (n : Nat) (T G : GT Int Int) (L : Nat → Bool) (vals : Nat → Value) (x : World) : Prop :=
  ∃ r gone w1, vals 4 = .tuple #[.pointer r, .pointer gone] ∧ (L 5 = true → vals 5 = .tuple #[.pointer r, .pointer gone]) ∧ (L 6 = true → vals 6 = .pointer r) ∧ (L 7 = true → vals 7 = .pointer gone) ∧ TrIi S w1 r T ∧ TrIi S w1 gone G ∧
    Below w.heap.size w w1 ∧ Chg2 (n + 2) (n + 3) w1 x ∧ x.cell? ⟨n + 2, 0, none⟩ = some (.pointer (bif L 8 then r else none)) ∧ x.cell? ⟨n + 3, 0, none⟩ = some (.pointer (bif L 9 then gone else none)) ∧ x.frozen? ⟨n + 2, 0, none⟩ = false ∧ x.frozen? ⟨n + 3, 0, none⟩ = false
structure TakeIIi (S : Nat → Prop) (w : World) (gb n : Nat) (p : Option Addr) (k : Int) (T G : GT Int Int) (L : Nat → Bool) (vals : Nat → Value) (x : World) : Prop where
  v0 : L 0 = true → vals 0 = .pointer (some ⟨gb, 0, none⟩)
  v1 : L 1 = true → vals 1 = .pointer (some ⟨gb, 0, none⟩)
  v2 : L 2 = true → vals 2 = .pointer p
  v3 : L 3 = true → vals 3 = .int .i64 k
  pre : L 4 = false → Below w.heap.size w x
  post : L 4 = true → PostIIi S w n T G L vals x

/-- what the closure of Take leaves. -/
def LeftIi (S : Nat → Prop) (w : World) (n : Nat) (T G : GT Int Int) (x : World) : Prop :=
  ∃ r gone w1, TrIi S w1 r T ∧ TrIi S w1 gone G ∧ Below w.heap.size w w1 ∧ Chg2 (n + 2) (n + 3) w1 x ∧ x.cell? ⟨n + 2, 0, none⟩ = some (.pointer r) ∧ x.cell? ⟨n + 3, 0, none⟩ = some (.pointer gone)

set_option maxHeartbeats 4000000 in
set_option maxRecDepth 100000 in
theorem take1_anyIi {S : Nat → Prop} {F : FuncId} {c : Int → Int → Int} {P : Int → Prop} (hO : OrdIi F c P) (gb : Nat) (k : Int) (t : GT Int Int) (w : World) (p : Option Addr) (n : Nat)
    (hz : n + 3 < w.heap.size) (hgl : gb < w.heap.size) (hg : w.cell? ⟨gb, 0, none⟩ = some (.func (.func F) #[] #[])) (cg : w.cell? ⟨gb, 1, none⟩ = some (.pointer p)) (ht : TrIi S w p t) (hS : ∀ j, w.heap.size ≤ j → S j) (hm : t.many ≤ 1000000) (hk : P k) (hp : ∀ q ∈ t.list, P q.1)
    (c0 : w.cell? ⟨n, 0, none⟩ = some (.pointer (some ⟨gb, 0, none⟩))) (c1 : w.cell? ⟨n + 1, 0, none⟩ = some (.int .i64 k)) (c2 : w.cell? ⟨n + 2, 0, none⟩ = some (.pointer none)) (c3 : w.cell? ⟨n + 3, 0, none⟩ = some (.pointer none))
    (f2 : w.frozen? ⟨n + 2, 0, none⟩ = false) (f3 : w.frozen? ⟨n + 3, 0, none⟩ = false) :
    Calls Try.prog 52 #[.pointer (some ⟨n, 0, none⟩), .pointer (some ⟨n + 1, 0, none⟩), .pointer (some ⟨n + 2, 0, none⟩), .pointer (some ⟨n + 3, 0, none⟩)] w
      fun e w' => e = .returned (.tuple #[]) ∧ LeftIi S w n (takeT c k t) (findT c k t) w' := by
  have mx := mixedS
  have HO := Lib.hid hO
  have HZ := Lib.hid hz
  have HGL := Lib.hid hgl
  have HG := Lib.hid hg
  have HT := Lib.hid ht
  have HS := Lib.hid hS
  have HM := Lib.hid hm
  have HK := Lib.hid hk
  have HP := Lib.hid hp
  have H0 := Lib.hid c0
  have H1 := Lib.hid c1
  have H3 := Lib.hid cg
  have H4 := Lib.hid c2
  have H5 := Lib.hid c3
  have F4 := Lib.hid f2
  have F5 := Lib.hid f3
  clear hO hz hgl hg cg ht hS hm hk hp c0 c1 c2 c3 f2 f3
  go_enter Try.func52, Try.ntmps52
  go_wp2_with fail
  refine wp_region_invC mx (by kernel_rfl) (TakeIIi S w gb n p k (takeT c k t) (findT c k t)) ?_ ?_ ?_
  · intro vals
    exact ⟨fun h => (by cases h), fun h => (by cases h), fun h => (by cases h), fun h => (by cases h), fun _ => (Below.refl _ _).drew, fun h => (by cases h)⟩
  · intro i o L vals x hi hL hdep hC hI
    have hlt : i < 10 := by have := (List.getElem?_eq_some_iff.1 hi).1; simpa using this
    generalize hA : frA _ _ L vals = a'
    have hT0 : a'.tmps.getD 0 undef = .pointer (some ⟨n, 0, none⟩) := by rw [← hA, frA_base (by kernel_rfl)]; rfl
    have hT1 : a'.tmps.getD 1 undef = .pointer (some ⟨n + 1, 0, none⟩) := by rw [← hA, frA_base (by kernel_rfl)]; rfl
    have hT2 : a'.tmps.getD 2 undef = .pointer (some ⟨n + 2, 0, none⟩) := by rw [← hA, frA_base (by kernel_rfl)]; rfl
    have hT3 : a'.tmps.getD 3 undef = .pointer (some ⟨n + 3, 0, none⟩) := by rw [← hA, frA_base (by kernel_rfl)]; rfl
    have hD := Lib.hid (fun k t (hk : L k = true) (ht : dstOf _ k = some t) => hA ▸ frA_done (by kernel_rfl) (vals := vals) hk ht)
    clear hA
    obtain rfl | rfl | rfl | rfl | rfl | rfl | rfl | rfl | rfl | rfl : i = 0 ∨ i = 1 ∨ i = 2 ∨ i = 3 ∨ i = 4 ∨ i = 5 ∨ i = 6 ∨ i = 7 ∨ i = 8 ∨ i = 9 := by omega
    all_goals
      injection hi with hi
      subst hi
      try simp [Region.binds] at hdep
    · have hno : L 4 = false := by
        cases h : L 4 with
        | false => rfl
        | true => exact absurd (hC.path [4, 0] (by kernel_rfl) 4 rfl h 0 rfl) (by simp [hL])
      have hbw := hI.pre hno
      have c0 : x.cell? ⟨n, 0, none⟩ = some (.pointer (some ⟨gb, 0, none⟩)) := by rw [hbw.cell (p := ⟨n, 0, none⟩) (by have := HZ.out; show n < _; omega)]; exact H0.out
      exact step_run rfl (v := .pointer (some ⟨gb, 0, none⟩)) (w' := x) (by go_simp) ⟨fun _ => rfl, hI.v1, hI.v2, hI.v3, hI.pre, fun h => absurd h (by simp [updL, hno])⟩
    · have hno : L 4 = false := by
        cases h : L 4 with
        | false => rfl
        | true => exact absurd (hC.path [4, 2, 1] (by kernel_rfl) 4 rfl h 1 rfl) (by simp [hL])
      have hbw := hI.pre hno
      have c0 : x.cell? ⟨n, 0, none⟩ = some (.pointer (some ⟨gb, 0, none⟩)) := by rw [hbw.cell (p := ⟨n, 0, none⟩) (by have := HZ.out; show n < _; omega)]; exact H0.out
      exact step_run rfl (v := .pointer (some ⟨gb, 0, none⟩)) (w' := x) (by go_simp) ⟨hI.v0, fun _ => rfl, hI.v2, hI.v3, hI.pre, fun h => absurd h (by simp [updL, hno])⟩
    · have hno : L 4 = false := by
        cases h : L 4 with
        | false => rfl
        | true => exact absurd (hC.path [4, 2] (by kernel_rfl) 4 rfl h 2 rfl) (by simp [hL])
      have hbw := hI.pre hno
      have d6 := hD.out 1 6 (by simp [hdep]) rfl
      rw [hI.v1 (by simp [hdep])] at d6
      refine step_enter rfl (w' := x) (by go_simp) ((top_anyIi gb p x (by rw [hbw.cell (p := ⟨gb, 1, none⟩) HGL.out]; exact H3.out)).mono ?_)
      rintro e w1 ⟨rfl, rfl⟩
      exact ⟨_, rfl, hI.v0, hI.v1, fun _ => rfl, hI.v3, hI.pre, fun h => absurd h (by simp [updL, hno])⟩
    · have hno : L 4 = false := by
        cases h : L 4 with
        | false => rfl
        | true => exact absurd (hC.path [4, 3] (by kernel_rfl) 4 rfl h 3 rfl) (by simp [hL])
      have hbw := hI.pre hno
      have c1 : x.cell? ⟨n + 1, 0, none⟩ = some (.int .i64 k) := by rw [hbw.cell (p := ⟨n + 1, 0, none⟩) (by have := HZ.out; show n + 1 < _; omega)]; exact H1.out
      exact step_run rfl (v := .int .i64 k) (w' := x) (by go_simp) ⟨hI.v0, hI.v1, hI.v2, fun _ => rfl, hI.pre, fun h => absurd h (by simp [updL, hno])⟩
    · have hbw := hI.pre hL
      have d5 := hD.out 0 5 (by simp [hdep]) rfl
      rw [hI.v0 (by simp [hdep])] at d5
      have d7 := hD.out 2 7 (by simp [hdep]) rfl
      rw [hI.v2 (by simp [hdep])] at d7
      have d8 := hD.out 3 8 (by simp [hdep]) rfl
      rw [hI.v3 (by simp [hdep])] at d8
      have n5 : L 5 = false := by
        cases h : L 5 with
        | false => rfl
        | true => exact absurd (hC.path [5, 4] (by kernel_rfl) 5 rfl h 4 rfl) (by simp [hL])
      have n6 : L 6 = false := by
        cases h : L 6 with
        | false => rfl
        | true => exact absurd (hC.path [6, 5, 4] (by kernel_rfl) 6 rfl h 4 rfl) (by simp [hL])
      have n7 : L 7 = false := by
        cases h : L 7 with
        | false => rfl
        | true => exact absurd (hC.path [7, 5, 4] (by kernel_rfl) 7 rfl h 4 rfl) (by simp [hL])
      have n8 : L 8 = false := by
        cases h : L 8 with
        | false => rfl
        | true => exact absurd (hC.path [8, 6, 5, 4] (by kernel_rfl) 8 rfl h 4 rfl) (by simp [hL])
      have n9 : L 9 = false := by
        cases h : L 9 with
        | false => rfl
        | true => exact absurd (hC.path [9, 7, 5, 4] (by kernel_rfl) 9 rfl h 4 rfl) (by simp [hL])
      refine step_enter rfl (w' := x) (by go_simp) ((without_anyIi HO.out gb k t x p (by have := HGL.out; have := hbw.size; omega) (by rw [hbw.cell (p := ⟨gb, 0, none⟩) HGL.out]; exact HG.out) (TrS.below HT.out hbw) (fun j hj => HS.out j (by have := hbw.size; omega)) HM.out HK.out HP.out).mono ?_)
      rintro e w1 ⟨r, gone, rfl, hr, hgo, hb1⟩
      have hb := hbw.trans (hb1.mono hbw.size)
      refine ⟨_, rfl, hI.v0, hI.v1, hI.v2, hI.v3, fun h => absurd h (by simp [updL]), fun _ => ⟨r, gone, w1, rfl, fun h => absurd h (by simp [updL, n5]), fun h => absurd h (by simp [updL, n6]), fun h => absurd h (by simp [updL, n7]), hr, hgo, hb, Chg2.refl _ _ _, ?_, ?_, ?_, ?_⟩⟩
      · rw [show updL L 4 8 = false from n8, hb.cell (p := ⟨n + 2, 0, none⟩) (by have := HZ.out; show n + 2 < _; omega)]; exact H4.out
      · rw [show updL L 4 9 = false from n9, hb.cell (p := ⟨n + 3, 0, none⟩) (by have := HZ.out; show n + 3 < _; omega)]; exact H5.out
      · rw [hb.frozen (p := ⟨n + 2, 0, none⟩) (by have := HZ.out; show n + 2 < _; omega)]; exact F4.out
      · rw [hb.frozen (p := ⟨n + 3, 0, none⟩) (by have := HZ.out; show n + 3 < _; omega)]; exact F5.out
    · have h4 : L 4 = true := by simp [hdep]
      have hpre : updL L 5 4 = false → Below w.heap.size w x := fun h => absurd h (by simp [updL, h4])
      obtain ⟨r, gone, w1, e4, e5, e6, e7, hr, hgo, hb, hc, c2, c3, f2, f3⟩ := hI.post h4
      have d9 := hD.out 4 9 (by simp [hdep]) rfl
      rw [e4] at d9
      exact step_run rfl (v := .tuple #[.pointer r, .pointer gone]) (w' := x) (by go_simp) ⟨hI.v0, hI.v1, hI.v2, hI.v3, hpre, fun _ => ⟨r, gone, w1, e4, fun _ => rfl, e6, e7, hr, hgo, hb, hc, c2, c3, f2, f3⟩⟩
    · have h4 : L 4 = true := hC.path [5, 4] (by kernel_rfl) 5 rfl (by simp [hdep]) 4 rfl
      have hpre : updL L 6 4 = false → Below w.heap.size w x := fun h => absurd h (by simp [updL, h4])
      obtain ⟨r, gone, w1, e4, e5, e6, e7, hr, hgo, hb, hc, c2, c3, f2, f3⟩ := hI.post h4
      have d4 := hD.out 5 4 (by simp [hdep]) rfl
      rw [e5 (by simp [hdep])] at d4
      exact step_run rfl (v := .pointer r) (w' := x) (by go_simp) ⟨hI.v0, hI.v1, hI.v2, hI.v3, hpre, fun _ => ⟨r, gone, w1, e4, e5, fun _ => rfl, e7, hr, hgo, hb, hc, c2, c3, f2, f3⟩⟩
    · have h4 : L 4 = true := hC.path [5, 4] (by kernel_rfl) 5 rfl (by simp [hdep]) 4 rfl
      have hpre : updL L 7 4 = false → Below w.heap.size w x := fun h => absurd h (by simp [updL, h4])
      obtain ⟨r, gone, w1, e4, e5, e6, e7, hr, hgo, hb, hc, c2, c3, f2, f3⟩ := hI.post h4
      have d4 := hD.out 5 4 (by simp [hdep]) rfl
      rw [e5 (by simp [hdep])] at d4
      exact step_run rfl (v := .pointer gone) (w' := x) (by go_simp) ⟨hI.v0, hI.v1, hI.v2, hI.v3, hpre, fun _ => ⟨r, gone, w1, e4, e5, e6, fun _ => rfl, hr, hgo, hb, hc, c2, c3, f2, f3⟩⟩
    · have h4 : L 4 = true := hC.path [6, 5, 4] (by kernel_rfl) 6 rfl (by simp [hdep]) 4 rfl
      have hpre : updL L 8 4 = false → Below w.heap.size w x := fun h => absurd h (by simp [updL, h4])
      obtain ⟨r, gone, w1, e4, e5, e6, e7, hr, hgo, hb, hc, c2, c3, f2, f3⟩ := hI.post h4
      have d10 := hD.out 6 10 (by simp [hdep]) rfl
      rw [e6 (by simp [hdep])] at d10
      refine stepI_skip rfl (w' := x.setCell ⟨n + 2, 0, none⟩ (.pointer r)) (by go_simp) ⟨hI.v0, hI.v1, hI.v2, hI.v3, fun h => absurd h (by simp [updL, h4]), fun _ => ⟨r, gone, w1, e4, e5, e6, e7, hr, hgo, hb, hc.set1 _, ?_, ?_, ?_, ?_⟩⟩
      · show _ = some (Value.pointer r); simp [go_sem, c2]
      · show _ = some (Value.pointer (bif L 9 then gone else none)); rw [World.cell?_setCell_other _ _ _ _ (by intro e; injection e with e1 _ _; omega)]; exact c3
      · simpa [go_sem] using f2
      · simpa [go_sem] using f3
    · have h4 : L 4 = true := hC.path [7, 5, 4] (by kernel_rfl) 7 rfl (by simp [hdep]) 4 rfl
      have hpre : updL L 9 4 = false → Below w.heap.size w x := fun h => absurd h (by simp [updL, h4])
      obtain ⟨r, gone, w1, e4, e5, e6, e7, hr, hgo, hb, hc, c2, c3, f2, f3⟩ := hI.post h4
      have d11 := hD.out 7 11 (by simp [hdep]) rfl
      rw [e7 (by simp [hdep])] at d11
      refine stepI_skip rfl (w' := x.setCell ⟨n + 3, 0, none⟩ (.pointer gone)) (by go_simp) ⟨hI.v0, hI.v1, hI.v2, hI.v3, fun h => absurd h (by simp [updL, h4]), fun _ => ⟨r, gone, w1, e4, e5, e6, e7, hr, hgo, hb, hc.set2 _, ?_, ?_, ?_, ?_⟩⟩
      · show _ = some (Value.pointer (bif L 8 then r else none)); rw [World.cell?_setCell_other _ _ _ _ (by intro e; injection e with e1 _ _; omega)]; exact c2
      · show _ = some (Value.pointer gone); simp [go_sem, c3]
      · simpa [go_sem] using f2
      · simpa [go_sem] using f3
  · intro vals x hI
    obtain ⟨r, gone, w1, e4, e5, e6, e7, hr, hgo, hb, hc, c2, c3, f2, f3⟩ := hI.post rfl
    have HF := Lib.hid (show LeftIi S w n (takeT c k t) (findT c k t) x from ⟨r, gone, w1, hr, hgo, hb, hc, c2, c3⟩)
    clear hI e4 e5 e6 e7 hr hgo hb hc c2 c3 f2 f3
    simp only [putsL, Act.put, List.setIfInBounds_toArray, List.set_cons_zero, List.set_cons_succ]
    go_wp2_with fail
    exact bodyPost_end (v := .tuple #[]) (by simp [results, Try.results52]) rfl ⟨rfl, HF.out⟩


set_option maxHeartbeats 4000000 in
set_option maxRecDepth 100000 in
theorem gtake_anyIi {F : FuncId} {c : Int → Int → Int} {P : Int → Prop} (hO : OrdIi F c P) (gb B : Nat) (k : Int) (t : GT Int Int) (w : World) (hg : GrIi (.func (.func F) #[] #[]) B w gb t) (hm : t.many ≤ 100000) (hk : P k) (hp : ∀ q ∈ t.list, P q.1) :
    Calls Try.prog 15 #[.pointer (some ⟨gb, 0, none⟩), .int .i64 k] w fun e w' => e = .returned (.tuple #[valVIi (findT c k t), .bool (isV (findT c k t))]) ∧ GrIi (.func (.func F) #[] #[]) B w' gb (takeT c k t) ∧ Chg gb w w' := by
  have hmf : ∀ (fn : Fn) (first cap : Array Value) (w : World), (Instr.makeFunc fn first cap).run Try.prog w = .ok (.func fn first cap) w := fun _ _ _ _ => rfl
  obtain ⟨gB, hB, p, hblk, ht⟩ := hg
  have hgl := (Array.getElem?_eq_some_iff.1 hblk).1
  obtain ⟨w1, hw1⟩ : ∃ w1, (w.alloc (.cells #[.pointer (some ⟨gb, 0, none⟩)] 24)).alloc (.cells #[.int .i64 k] 3) = w1 := ⟨_, rfl⟩
  have hb1 : Below w.heap.size w w1 := hw1 ▸ ((Below.refl _ _).alloc (Nat.le_refl _) _).alloc (by simp) _
  have z1 : w1.heap.size = w.heap.size + 2 := by rw [← hw1]; simp
  have a0 : w1.cell? ⟨w.heap.size, 0, none⟩ = some (.pointer (some ⟨gb, 0, none⟩)) := by rw [← hw1]; simp [go_sem]
  have a1 : w1.cell? ⟨w.heap.size + 1, 0, none⟩ = some (.int .i64 k) := by rw [← hw1]; simp [go_sem]
  obtain ⟨w2, hw2⟩ : ∃ w2, w1.alloc (.cells #[.pointer none] 55) = w2 := ⟨_, rfl⟩
  have hb2 : Below w1.heap.size w1 w2 := hw2 ▸ (Below.refl _ _).alloc (Nat.le_refl _) _
  have z2 : w2.heap.size = w.heap.size + 3 := by rw [← hw2]; simp [z1]
  have b2 : w2.cell? ⟨w.heap.size + 2, 0, none⟩ = some (.pointer none) := by rw [← hw2, ← z1]; simp [go_sem]
  have g2 : w2.frozen? ⟨w.heap.size + 2, 0, none⟩ = false := by rw [← hw2, ← z1]; simp [go_sem]
  obtain ⟨w3, hw3⟩ : ∃ w3, w2.alloc (.cells #[.pointer none] 55) = w3 := ⟨_, rfl⟩
  have hb3 : Below w2.heap.size w2 w3 := hw3 ▸ (Below.refl _ _).alloc (Nat.le_refl _) _
  have z3 : w3.heap.size = w.heap.size + 4 := by rw [← hw3]; simp [z2]
  have b3 : w3.cell? ⟨w.heap.size + 3, 0, none⟩ = some (.pointer none) := by rw [← hw3, ← z2]; simp [go_sem]
  have g3 : w3.frozen? ⟨w.heap.size + 3, 0, none⟩ = false := by rw [← hw3, ← z2]; simp [go_sem]
  have hb03 : Below w.heap.size w w3 := (hb1.trans (hb2.mono (by omega))).trans (hb3.mono (by omega))
  have k3 : w3.heap[gb]? = some (.cells #[.func (.func F) #[] #[], .pointer p] 57 (0, 0)) := by rw [hb03.block gb hgl]; exact hblk
  have bc3 : ∀ i, i < w2.heap.size → w3.cell? ⟨i, 0, none⟩ = w2.cell? ⟨i, 0, none⟩ := fun i hi => hb3.cell (p := ⟨i, 0, none⟩) hi
  have bc2 : ∀ i, i < w1.heap.size → w2.cell? ⟨i, 0, none⟩ = w1.cell? ⟨i, 0, none⟩ := fun i hi => hb2.cell (p := ⟨i, 0, none⟩) hi
  have ht3 : TrIi (fun j => B ≤ j ∧ (j < w.heap.size ∨ w.heap.size + 4 ≤ j)) w3 p t := TrS.below (TrS.mono (fun j h1 h2 => ⟨h1, .inl h2⟩) ht) hb03
  have x0 : w3.cell? ⟨w.heap.size, 0, none⟩ = some (.pointer (some ⟨gb, 0, none⟩)) := by rw [bc3 _ (by omega), bc2 _ (by omega)]; exact a0
  have C1 := Lib.hid (take1_anyIi (S := fun j => B ≤ j ∧ (j < w.heap.size ∨ w.heap.size + 4 ≤ j)) hO gb k t w3 p w.heap.size (by omega) (by omega) (cell_at k3 0) (cell_at k3 1) ht3 (fun j hj => by omega) (by omega) hk hp x0
    (by rw [bc3 _ (by omega), bc2 _ (by omega)]; exact a1) (by rw [bc3 _ (by omega)]; exact b2) b3 (by rw [hb3.frozen (p := ⟨w.heap.size + 2, 0, none⟩) (by show w.heap.size + 2 < _; omega)]; exact g2) g3)
  have CC := Lib.hid (calm_any 52 #[.pointer (some ⟨w.heap.size, 0, none⟩), .pointer (some ⟨w.heap.size + 1, 0, none⟩), .pointer (some ⟨w.heap.size + 2, 0, none⟩), .pointer (some ⟨w.heap.size + 3, 0, none⟩)] (fun _ _ => rfl) w3 _ C1.out)
  have HK3 := Lib.hid k3
  have HA := Lib.hid x0
  have HZ3 := Lib.hid z3
  have HB03 := Lib.hid hb03
  have HT := Lib.hid ht3
  have HHB := Lib.hid hB
  have HGB := Lib.hid gB
  have HM := Lib.hid hm
  have HGL := Lib.hid hgl
  have HN := Lib.hid (take_nil c k t)
  clear hblk ht ht3 hB gB hm hO hk hp hb1 hb2 hb3 hb03 k3 bc2 bc3 a0 a1 b2 b3 g2 g3 C1 x0
  have e1 : w1.heap.size = w.heap.size + 2 := z1
  have e2 : w2.heap.size = w.heap.size + 3 := z2
  clear z1 z2 z3
  obtain ⟨T, hT⟩ : ∃ T, takeT c k t = T := ⟨_, rfl⟩
  obtain ⟨G, hG⟩ : ∃ G, findT c k t = G := ⟨_, rfl⟩
  rw [hT, hG] at CC ⊢
  rw [hT, hG] at HN
  clear hT hG
  go_enter Try.func15, Try.ntmps15
  go_wp2_with fail
  clear hw1 hw2 hw3 e1 e2 hmf
  refine CC.out.mono ?_
  rintro e x ⟨rfl, r, gone, w4, hr, hgo, hb4, hc, c2, c3⟩
  obtain ⟨n, hn⟩ : ∃ n, w.heap.size = n := ⟨_, rfl⟩
  have hz4 : w.heap.size + 4 ≤ w4.heap.size := by have := hb4.size; have := HZ3.out; omega
  have hzx := hc.size
  have xk : x.heap[gb]? = some (.cells #[.func (.func F) #[] #[], .pointer p] 57 (0, 0)) := by rw [hc.block gb (by have := HGL.out; omega) (by have := HGL.out; omega) (by have := HGL.out; omega), hb4.block gb (by have := HZ3.out; have := HGL.out; omega)]; exact HK3.out
  have x0 : x.cell? ⟨w.heap.size, 0, none⟩ = some (.pointer (some ⟨gb, 0, none⟩)) := by rw [hc.cell (by omega) (by omega) (by omega), hb4.cell (p := ⟨w.heap.size, 0, none⟩) (by have := HZ3.out; show w.heap.size < _; omega)]; exact HA.out
  have hcx : Chg gb w x := ⟨hc.os.trans ((HB03.out.trans (hb4.mono HB03.out.size)).os), hc.tape.trans ((HB03.out.trans (hb4.mono HB03.out.size)).tape), hc.output.trans ((HB03.out.trans (hb4.mono HB03.out.size)).output), by omega, fun j hj hg => (hc.block j (by omega) (by omega) (by omega)).trans ((HB03.out.trans (hb4.mono HB03.out.size)).block j hj)⟩
  have hrx := TrS.chg2 hr hc (by have := HHB.out; omega) (by have := HHB.out; omega)
  have hgx := TrS.chg2 hgo hc (by have := HHB.out; omega) (by have := HHB.out; omega)
  have hox := TrS.chg2 (TrS.below HT.out hb4) hc (by have := HHB.out; omega) (by have := HHB.out; omega)
  have HR := Lib.hid hrx
  have HG := Lib.hid hgx
  have HO := Lib.hid hox
  have HCX := Lib.hid hcx
  have HXK := Lib.hid xk
  have HZX := Lib.hid (show w.heap.size + 4 ≤ x.heap.size by omega)
  have xf : x.frozen? ⟨gb, 1, none⟩ = false := frozen_at xk 1
  have x1 : x.cell? ⟨gb, 1, none⟩ = some (.pointer p) := cell_at xk 1
  clear hr hgo hrx hgx hox hc hcx xk hb4 hz4 hzx HT HA HK3 HB03 HZ3 CC hn
  cases G with
  | nil =>
    obtain rfl : gone = none := HG.out
    have HNN := Lib.hid (HN.out rfl)
    go_wp2_with fail
    refine (value_anyIi (S := fun _ => True) (w := x) (p := none) (t := .nil) TrS.nil).mono ?_
    rintro e x2 ⟨rfl, hb2⟩
    have HB2 := Lib.hid hb2
    clear hb2
    go_wp2_with fail
    go_ret2
    refine ⟨rfl, ⟨HGB.out, by have := HHB.out; have := HZX.out; have := HB2.out.size; omega, p, ?_, ?_⟩, HCX.out.trans (.of_below HB2.out)⟩
    · rw [HB2.out.block gb (by have := HZX.out; have := HGL.out; omega)]; exact HXK.out
    · rw [HNN.out]; exact TrS.mono (fun j h1 _ => h1.1) (TrS.below HO.out HB2.out)
  | node fk fv fl fr =>
    obtain ⟨gg, ql, qr, rfl, -⟩ := TrS.node HG.out
    obtain ⟨x2, hx2⟩ : ∃ x2, x.setCell ⟨gb, 1, none⟩ (.pointer r) = x2 := ⟨_, rfl⟩
    have hs2 : Chg gb x x2 := hx2 ▸ Chg.set 1 _
    have y3 : x2.cell? ⟨w.heap.size + 3, 0, none⟩ = some (.pointer (some ⟨gg, 0, none⟩)) := by rw [hs2.cell (by have := HZX.out; omega) (by have := HGL.out; omega)]; exact c3
    have HG2 := Lib.hid (TrS.chg HG.out hs2 (by have := HGB.out; omega))
    have HR2 := Lib.hid (TrS.chg HR.out hs2 (by have := HGB.out; omega))
    have HC2 := Lib.hid (HCX.out.trans hs2)
    have HK2 := Lib.hid (show x2.heap[gb]? = some (.cells #[.func (.func F) #[] #[], .pointer r] 57 (0, 0)) from hx2 ▸ set_at HXK.out 1 _)
    have HZ2 := Lib.hid (show w.heap.size + 4 ≤ x2.heap.size by have := HZX.out; have := hs2.size; omega)
    clear hs2 HR HG HO HXK HZX HCX
    go_wp2_with fail
    refine (value_anyIi HG2.out).mono ?_
    rintro e x3 ⟨rfl, hb3⟩
    have HB3 := Lib.hid hb3
    clear hb3
    go_wp2_with fail
    go_ret2
    refine ⟨rfl, ⟨HGB.out, by have := HHB.out; have := HZ2.out; have := HB3.out.size; omega, r, ?_, TrS.mono (fun j h1 _ => h1.1) (TrS.below HR2.out HB3.out)⟩, HC2.out.trans (.of_below HB3.out)⟩
    rw [HB3.out.block gb (by have := HZ2.out; have := HGL.out; omega)]; exact HK2.out
end Go.Proofs.Ytaghflionakhhaa
