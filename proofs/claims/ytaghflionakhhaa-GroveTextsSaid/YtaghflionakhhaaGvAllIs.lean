/-
  Layer grove, at int, string: all of a tree shown to a function.
-/
import Derived.Test.YtaghflionakhhaaGvGrowIs
import Derived.Test.YtaghflionakhhaaGvRun
namespace Go.Proofs.Ytaghflionakhhaa
open Go.RowKit Go.Gz

/-- g, with what it has captured, goes on as f does; J tells its state. -/
structure SeesIs {σ : Type} (f : σ → Int → ByteArray → σ × Bool) (g : FuncId) (lb : Array Value) (A : σ → Int × ByteArray → Prop) (S : Nat → Prop) (w0 : World) (J : σ → World → Prop) : Prop where
  eg : ∀ args w, (callFunc g args).run Try.prog w = .ok (.enter g args) w
  hs : ∀ s k v w, J s w → A s (k, v) → Calls Try.prog g (#[.int .i64 k, .string v] ++ lb) w fun e w' => e = .returned (.bool (f s k v).2) ∧ J (f s k v).1 w'
  hb : ∀ s w w', J s w → Below w.heap.size w w' → J s w'
  hz : ∀ s w, J s w → w0.heap.size ≤ w.heap.size
  hk : ∀ s w, J s w → ∀ j, S j → j < w0.heap.size → w.heap[j]? = w0.heap[j]?

def SawIs {σ : Type} (f : σ → Int → ByteArray → σ × Bool) (J : σ → World → Prop) (s : σ) (l : List (Int × ByteArray)) (e : Ending) (w' : World) : Prop :=
  e = .returned (.bool (runS f s l).2) ∧ J (runS f s l).1 w'

set_option maxHeartbeats 4000000 in
set_option maxRecDepth 100000 in
theorem all_anyIs {σ : Type} {f : σ → Int → ByteArray → σ × Bool} {g : FuncId} {lb : Array Value} {A : σ → Int × ByteArray → Prop} {S : Nat → Prop} {w0 : World} {J : σ → World → Prop} (hS : SeesIs f g lb A S w0 J) (t : GT Int ByteArray) :
    ∀ (p : Option Addr) (s : σ) (w : World), J s w → TrIs S w0 p t → RunOk f A s t.list → Calls Try.prog 96 #[.pointer p, .func (.func g) #[] lb] w (SawIs f J s t.list) := by
  have mx := mixedS
  have eg := hS.eg
  have HS := Lib.hid hS
  clear hS
  induction t with
  | nil =>
    intro p s w hj ht ha
    obtain rfl : p = none := ht
    have HJ := Lib.hid hj
    clear ha hj
    go_enter Try.func96, Try.ntmps96
    go_wp2_with fail
    refine wp_region_state mx (by kernel_rfl) [some (.pointer none), some (.bool true), some (.bool true), some (undef), some (undef), some (undef), some (undef), some (undef), some (undef), some (undef), some (undef), some (undef), some (undef), some (undef), some (undef), some (undef), some (undef), some (undef), some (undef), some (undef), some (undef), some (undef), some (undef), some (undef), some (undef), some (undef), some (undef), some (undef), some (undef), some (undef), some (undef), some (undef), some (undef), some (.bool true), some (.bool true)] (fun _ x => J s x) (HS.out.hb _ _ _ HJ.out (Below.refl _ _).drew) ?_ ?_
    · intro i o L vals w2 hi hL hdep hC hJ hV
      have hlt : i < 35 := by have := (List.getElem?_eq_some_iff.1 hi).1; simpa using this
      generalize hA : frA _ _ L vals = a'
      have hT0 : a'.tmps.getD 0 undef = .pointer none := by rw [← hA, frA_base (by kernel_rfl)]; rfl
      have hT1 : a'.tmps.getD 1 undef = .func (.func g) #[] lb := by rw [← hA, frA_base (by kernel_rfl)]; rfl
      have hD := Lib.hid (fun k t (hk : L k = true) (ht : dstOf _ k = some t) => hA ▸ frA_done (by kernel_rfl) (vals := vals) hk ht)
      clear hA
      obtain rfl | rfl | rfl | rfl | rfl | rfl | rfl | rfl | rfl | rfl | rfl | rfl | rfl | rfl | rfl | rfl | rfl | rfl | rfl | rfl | rfl | rfl | rfl | rfl | rfl | rfl | rfl | rfl | rfl | rfl | rfl | rfl | rfl | rfl | rfl : i = 0 ∨ i = 1 ∨ i = 2 ∨ i = 3 ∨ i = 4 ∨ i = 5 ∨ i = 6 ∨ i = 7 ∨ i = 8 ∨ i = 9 ∨ i = 10 ∨ i = 11 ∨ i = 12 ∨ i = 13 ∨ i = 14 ∨ i = 15 ∨ i = 16 ∨ i = 17 ∨ i = 18 ∨ i = 19 ∨ i = 20 ∨ i = 21 ∨ i = 22 ∨ i = 23 ∨ i = 24 ∨ i = 25 ∨ i = 26 ∨ i = 27 ∨ i = 28 ∨ i = 29 ∨ i = 30 ∨ i = 31 ∨ i = 32 ∨ i = 33 ∨ i = 34 := by omega
      all_goals
        injection hi with hi
        subst hi
        try simp [Region.binds] at hdep
      · exact step_run rfl (v := .pointer none) (w' := w2) (by go_simp) ⟨EqV.self rfl, hJ⟩
      · have d5 := hD.out 0 5 (by simp [hdep]) rfl
        rw [show vals 0 = .pointer none from (hV 0 (by simp [hdep])).of rfl] at d5
        exact step_run rfl (v := .bool true) (w' := w2) (by go_simp) ⟨EqV.self rfl, hJ⟩
      · have d6 := hD.out 1 6 (by simp [hdep]) rfl
        rw [show vals 1 = .bool true from (hV 1 (by simp [hdep])).of rfl] at d6
        exact step_run rfl (v := .bool true) (w' := w2) (by go_simp) ⟨EqV.self rfl, hJ⟩
      · have d7 := hD.out 2 7 (by simp [hdep]) rfl
        rw [show vals 2 = .bool true from (hV 2 (by simp [hdep])).of rfl] at d7
        exact step_shut (wanted_shut rfl rfl d7 (by decide)) ⟨EqV.self rfl, hJ⟩
      · have d8 := hD.out 3 8 (by simp [hdep]) rfl
        rw [show vals 3 = undef from (hV 3 (by simp [hdep])).of rfl] at d8
        have d7 := hD.out 2 7 (by simp [hdep]) rfl
        rw [show vals 2 = .bool true from (hV 2 (by simp [hdep])).of rfl] at d7
        exact step_shut (wanted_shut rfl rfl d7 (by decide)) ⟨EqV.self rfl, hJ⟩
      · have d9 := hD.out 4 9 (by simp [hdep]) rfl
        rw [show vals 4 = undef from (hV 4 (by simp [hdep])).of rfl] at d9
        have d7 := hD.out 2 7 (by simp [hdep]) rfl
        rw [show vals 2 = .bool true from (hV 2 (by simp [hdep])).of rfl] at d7
        exact step_shut (wanted_shut rfl rfl d7 (by decide)) ⟨EqV.self rfl, hJ⟩
      · have d10 := hD.out 5 10 (by simp [hdep]) rfl
        rw [show vals 5 = undef from (hV 5 (by simp [hdep])).of rfl] at d10
        have d7 := hD.out 2 7 (by simp [hdep]) rfl
        rw [show vals 2 = .bool true from (hV 2 (by simp [hdep])).of rfl] at d7
        exact step_shut (wanted_shut rfl rfl d7 (by decide)) ⟨EqV.self rfl, hJ⟩
      · have d11 := hD.out 6 11 (by simp [hdep]) rfl
        rw [show vals 6 = undef from (hV 6 (by simp [hdep])).of rfl] at d11
        have d7 := hD.out 2 7 (by simp [hdep]) rfl
        rw [show vals 2 = .bool true from (hV 2 (by simp [hdep])).of rfl] at d7
        exact step_shut (wanted_shut rfl rfl d7 (by decide)) ⟨EqV.self rfl, hJ⟩
      · have d7 := hD.out 2 7 (by simp [hdep]) rfl
        rw [show vals 2 = .bool true from (hV 2 (by simp [hdep])).of rfl] at d7
        exact step_shut (wanted_shut rfl rfl d7 (by decide)) ⟨EqV.self rfl, hJ⟩
      · have d12 := hD.out 7 12 (by simp [hdep]) rfl
        rw [show vals 7 = undef from (hV 7 (by simp [hdep])).of rfl] at d12
        have d13 := hD.out 8 13 (by simp [hdep]) rfl
        rw [show vals 8 = undef from (hV 8 (by simp [hdep])).of rfl] at d13
        have d7 := hD.out 2 7 (by simp [hdep]) rfl
        rw [show vals 2 = .bool true from (hV 2 (by simp [hdep])).of rfl] at d7
        exact step_shut (wanted_shut rfl rfl d7 (by decide)) ⟨EqV.self rfl, hJ⟩
      · have d14 := hD.out 9 14 (by simp [hdep]) rfl
        rw [show vals 9 = undef from (hV 9 (by simp [hdep])).of rfl] at d14
        have d7 := hD.out 2 7 (by simp [hdep]) rfl
        rw [show vals 2 = .bool true from (hV 2 (by simp [hdep])).of rfl] at d7
        exact step_shut (wanted_shut rfl rfl d7 (by decide)) ⟨EqV.self rfl, hJ⟩
      · have d15 := hD.out 10 15 (by simp [hdep]) rfl
        rw [show vals 10 = undef from (hV 10 (by simp [hdep])).of rfl] at d15
        exact step_shut (wanted_undef rfl rfl d15) ⟨EqV.self rfl, hJ⟩
      · have d15 := hD.out 10 15 (by simp [hdep]) rfl
        rw [show vals 10 = undef from (hV 10 (by simp [hdep])).of rfl] at d15
        exact step_shut (wanted_undef rfl rfl d15) ⟨EqV.self rfl, hJ⟩
      · have d17 := hD.out 12 17 (by simp [hdep]) rfl
        rw [show vals 12 = undef from (hV 12 (by simp [hdep])).of rfl] at d17
        have d15 := hD.out 10 15 (by simp [hdep]) rfl
        rw [show vals 10 = undef from (hV 10 (by simp [hdep])).of rfl] at d15
        exact step_shut (wanted_undef rfl rfl d15) ⟨EqV.self rfl, hJ⟩
      · have d18 := hD.out 13 18 (by simp [hdep]) rfl
        rw [show vals 13 = undef from (hV 13 (by simp [hdep])).of rfl] at d18
        have d15 := hD.out 10 15 (by simp [hdep]) rfl
        rw [show vals 10 = undef from (hV 10 (by simp [hdep])).of rfl] at d15
        exact step_shut (wanted_undef rfl rfl d15) ⟨EqV.self rfl, hJ⟩
      · have d19 := hD.out 14 19 (by simp [hdep]) rfl
        rw [show vals 14 = undef from (hV 14 (by simp [hdep])).of rfl] at d19
        have d15 := hD.out 10 15 (by simp [hdep]) rfl
        rw [show vals 10 = undef from (hV 10 (by simp [hdep])).of rfl] at d15
        exact step_shut (wanted_undef rfl rfl d15) ⟨EqV.self rfl, hJ⟩
      · have d20 := hD.out 15 20 (by simp [hdep]) rfl
        rw [show vals 15 = undef from (hV 15 (by simp [hdep])).of rfl] at d20
        have d15 := hD.out 10 15 (by simp [hdep]) rfl
        rw [show vals 10 = undef from (hV 10 (by simp [hdep])).of rfl] at d15
        exact step_shut (wanted_undef rfl rfl d15) ⟨EqV.self rfl, hJ⟩
      · have d15 := hD.out 10 15 (by simp [hdep]) rfl
        rw [show vals 10 = undef from (hV 10 (by simp [hdep])).of rfl] at d15
        exact step_shut (wanted_undef rfl rfl d15) ⟨EqV.self rfl, hJ⟩
      · have d22 := hD.out 17 22 (by simp [hdep]) rfl
        rw [show vals 17 = undef from (hV 17 (by simp [hdep])).of rfl] at d22
        have d15 := hD.out 10 15 (by simp [hdep]) rfl
        rw [show vals 10 = undef from (hV 10 (by simp [hdep])).of rfl] at d15
        exact step_shut (wanted_undef rfl rfl d15) ⟨EqV.self rfl, hJ⟩
      · have d23 := hD.out 18 23 (by simp [hdep]) rfl
        rw [show vals 18 = undef from (hV 18 (by simp [hdep])).of rfl] at d23
        have d15 := hD.out 10 15 (by simp [hdep]) rfl
        rw [show vals 10 = undef from (hV 10 (by simp [hdep])).of rfl] at d15
        exact step_shut (wanted_undef rfl rfl d15) ⟨EqV.self rfl, hJ⟩
      · have d24 := hD.out 19 24 (by simp [hdep]) rfl
        rw [show vals 19 = undef from (hV 19 (by simp [hdep])).of rfl] at d24
        have d15 := hD.out 10 15 (by simp [hdep]) rfl
        rw [show vals 10 = undef from (hV 10 (by simp [hdep])).of rfl] at d15
        exact step_shut (wanted_undef rfl rfl d15) ⟨EqV.self rfl, hJ⟩
      · have d25 := hD.out 20 25 (by simp [hdep]) rfl
        rw [show vals 20 = undef from (hV 20 (by simp [hdep])).of rfl] at d25
        have d15 := hD.out 10 15 (by simp [hdep]) rfl
        rw [show vals 10 = undef from (hV 10 (by simp [hdep])).of rfl] at d15
        exact step_shut (wanted_undef rfl rfl d15) ⟨EqV.self rfl, hJ⟩
      · have d16 := hD.out 11 16 (by simp [hdep]) rfl
        rw [show vals 11 = undef from (hV 11 (by simp [hdep])).of rfl] at d16
        have d21 := hD.out 16 21 (by simp [hdep]) rfl
        rw [show vals 16 = undef from (hV 16 (by simp [hdep])).of rfl] at d21
        have d26 := hD.out 21 26 (by simp [hdep]) rfl
        rw [show vals 21 = undef from (hV 21 (by simp [hdep])).of rfl] at d26
        have d15 := hD.out 10 15 (by simp [hdep]) rfl
        rw [show vals 10 = undef from (hV 10 (by simp [hdep])).of rfl] at d15
        exact step_shut (wanted_undef rfl rfl d15) ⟨EqV.self rfl, hJ⟩
      · have d15 := hD.out 10 15 (by simp [hdep]) rfl
        rw [show vals 10 = undef from (hV 10 (by simp [hdep])).of rfl] at d15
        have d27 := hD.out 22 27 (by simp [hdep]) rfl
        rw [show vals 22 = undef from (hV 22 (by simp [hdep])).of rfl] at d27
        have d7 := hD.out 2 7 (by simp [hdep]) rfl
        rw [show vals 2 = .bool true from (hV 2 (by simp [hdep])).of rfl] at d7
        exact step_shut (wanted_shut rfl rfl d7 (by decide)) ⟨EqV.self rfl, hJ⟩
      · have d28 := hD.out 23 28 (by simp [hdep]) rfl
        rw [show vals 23 = undef from (hV 23 (by simp [hdep])).of rfl] at d28
        have d7 := hD.out 2 7 (by simp [hdep]) rfl
        rw [show vals 2 = .bool true from (hV 2 (by simp [hdep])).of rfl] at d7
        exact step_shut (wanted_shut rfl rfl d7 (by decide)) ⟨EqV.self rfl, hJ⟩
      · have d29 := hD.out 24 29 (by simp [hdep]) rfl
        rw [show vals 24 = undef from (hV 24 (by simp [hdep])).of rfl] at d29
        exact step_shut (wanted_undef rfl rfl d29) ⟨EqV.self rfl, hJ⟩
      · have d30 := hD.out 25 30 (by simp [hdep]) rfl
        rw [show vals 25 = undef from (hV 25 (by simp [hdep])).of rfl] at d30
        have d29 := hD.out 24 29 (by simp [hdep]) rfl
        rw [show vals 24 = undef from (hV 24 (by simp [hdep])).of rfl] at d29
        exact step_shut (wanted_undef rfl rfl d29) ⟨EqV.self rfl, hJ⟩
      · have d31 := hD.out 26 31 (by simp [hdep]) rfl
        rw [show vals 26 = undef from (hV 26 (by simp [hdep])).of rfl] at d31
        have d29 := hD.out 24 29 (by simp [hdep]) rfl
        rw [show vals 24 = undef from (hV 24 (by simp [hdep])).of rfl] at d29
        exact step_shut (wanted_undef rfl rfl d29) ⟨EqV.self rfl, hJ⟩
      · have d32 := hD.out 27 32 (by simp [hdep]) rfl
        rw [show vals 27 = undef from (hV 27 (by simp [hdep])).of rfl] at d32
        have d29 := hD.out 24 29 (by simp [hdep]) rfl
        rw [show vals 24 = undef from (hV 24 (by simp [hdep])).of rfl] at d29
        exact step_shut (wanted_undef rfl rfl d29) ⟨EqV.self rfl, hJ⟩
      · have d33 := hD.out 28 33 (by simp [hdep]) rfl
        rw [show vals 28 = undef from (hV 28 (by simp [hdep])).of rfl] at d33
        have d29 := hD.out 24 29 (by simp [hdep]) rfl
        rw [show vals 24 = undef from (hV 24 (by simp [hdep])).of rfl] at d29
        exact step_shut (wanted_undef rfl rfl d29) ⟨EqV.self rfl, hJ⟩
      · have d29 := hD.out 24 29 (by simp [hdep]) rfl
        rw [show vals 24 = undef from (hV 24 (by simp [hdep])).of rfl] at d29
        exact step_shut (wanted_undef rfl rfl d29) ⟨EqV.self rfl, hJ⟩
      · have d34 := hD.out 29 34 (by simp [hdep]) rfl
        rw [show vals 29 = undef from (hV 29 (by simp [hdep])).of rfl] at d34
        have d35 := hD.out 30 35 (by simp [hdep]) rfl
        rw [show vals 30 = undef from (hV 30 (by simp [hdep])).of rfl] at d35
        have d29 := hD.out 24 29 (by simp [hdep]) rfl
        rw [show vals 24 = undef from (hV 24 (by simp [hdep])).of rfl] at d29
        exact step_shut (wanted_undef rfl rfl d29) ⟨EqV.self rfl, hJ⟩
      · have d29 := hD.out 24 29 (by simp [hdep]) rfl
        rw [show vals 24 = undef from (hV 24 (by simp [hdep])).of rfl] at d29
        have d36 := hD.out 31 36 (by simp [hdep]) rfl
        rw [show vals 31 = undef from (hV 31 (by simp [hdep])).of rfl] at d36
        have d7 := hD.out 2 7 (by simp [hdep]) rfl
        rw [show vals 2 = .bool true from (hV 2 (by simp [hdep])).of rfl] at d7
        exact step_shut (wanted_shut rfl rfl d7 (by decide)) ⟨EqV.self rfl, hJ⟩
      · have d7 := hD.out 2 7 (by simp [hdep]) rfl
        rw [show vals 2 = .bool true from (hV 2 (by simp [hdep])).of rfl] at d7
        have d37 := hD.out 32 37 (by simp [hdep]) rfl
        rw [show vals 32 = undef from (hV 32 (by simp [hdep])).of rfl] at d37
        exact step_run rfl (v := .bool true) (w' := w2) (by go_simp) ⟨EqV.self rfl, hJ⟩
      · have d38 := hD.out 33 38 (by simp [hdep]) rfl
        rw [show vals 33 = .bool true from (hV 33 (by simp [hdep])).of rfl] at d38
        exact step_run rfl (v := .bool true) (w' := w2) (by go_simp) ⟨EqV.self rfl, hJ⟩
    · intro vals w2 hJ hV
      have e0 : vals 0 = .pointer none := (hV 0 (by decide)).of rfl
      have e1 : vals 1 = .bool true := (hV 1 (by decide)).of rfl
      have e2 : vals 2 = .bool true := (hV 2 (by decide)).of rfl
      have e3 : vals 3 = undef := (hV 3 (by decide)).of rfl
      have e4 : vals 4 = undef := (hV 4 (by decide)).of rfl
      have e5 : vals 5 = undef := (hV 5 (by decide)).of rfl
      have e6 : vals 6 = undef := (hV 6 (by decide)).of rfl
      have e7 : vals 7 = undef := (hV 7 (by decide)).of rfl
      have e8 : vals 8 = undef := (hV 8 (by decide)).of rfl
      have e9 : vals 9 = undef := (hV 9 (by decide)).of rfl
      have e10 : vals 10 = undef := (hV 10 (by decide)).of rfl
      have e11 : vals 11 = undef := (hV 11 (by decide)).of rfl
      have e12 : vals 12 = undef := (hV 12 (by decide)).of rfl
      have e13 : vals 13 = undef := (hV 13 (by decide)).of rfl
      have e14 : vals 14 = undef := (hV 14 (by decide)).of rfl
      have e15 : vals 15 = undef := (hV 15 (by decide)).of rfl
      have e16 : vals 16 = undef := (hV 16 (by decide)).of rfl
      have e17 : vals 17 = undef := (hV 17 (by decide)).of rfl
      have e18 : vals 18 = undef := (hV 18 (by decide)).of rfl
      have e19 : vals 19 = undef := (hV 19 (by decide)).of rfl
      have e20 : vals 20 = undef := (hV 20 (by decide)).of rfl
      have e21 : vals 21 = undef := (hV 21 (by decide)).of rfl
      have e22 : vals 22 = undef := (hV 22 (by decide)).of rfl
      have e23 : vals 23 = undef := (hV 23 (by decide)).of rfl
      have e24 : vals 24 = undef := (hV 24 (by decide)).of rfl
      have e25 : vals 25 = undef := (hV 25 (by decide)).of rfl
      have e26 : vals 26 = undef := (hV 26 (by decide)).of rfl
      have e27 : vals 27 = undef := (hV 27 (by decide)).of rfl
      have e28 : vals 28 = undef := (hV 28 (by decide)).of rfl
      have e29 : vals 29 = undef := (hV 29 (by decide)).of rfl
      have e30 : vals 30 = undef := (hV 30 (by decide)).of rfl
      have e31 : vals 31 = undef := (hV 31 (by decide)).of rfl
      have e32 : vals 32 = undef := (hV 32 (by decide)).of rfl
      have e33 : vals 33 = .bool true := (hV 33 (by decide)).of rfl
      have e34 : vals 34 = .bool true := (hV 34 (by decide)).of rfl
      simp only [putsL, Act.put, List.setIfInBounds_toArray, List.set_cons_zero, List.set_cons_succ, e0, e1, e2, e3, e4, e5, e6, e7, e8, e9, e10, e11, e12, e13, e14, e15, e16, e17, e18, e19, e20, e21, e22, e23, e24, e25, e26, e27, e28, e29, e30, e31, e32, e33, e34]
      clear e0 e1 e2 e3 e4 e5 e6 e7 e8 e9 e10 e11 e12 e13 e14 e15 e16 e17 e18 e19 e20 e21 e22 e23 e24 e25 e26 e27 e28 e29 e30 e31 e32 e33 e34
      have HJ2 := Lib.hid hJ
      clear hJ hV
      generalize vals (0 + 1 + 1 + 1) = z3
      go_wp2_with fail
      go_ret
      exact ⟨rfl, HJ2.out⟩
  | node k v l r ihl ihr =>
    intro p s w hj ht ha
    obtain ⟨gn, pl, pr, rfl, hn⟩ := TrS.node ht
    have HN := Lib.hid hn
    have HJ := Lib.hid hj
    obtain ⟨ha1, ha2⟩ := runOk_append (a := l.list) (b := (k, v) :: r.list) ha
    have CL := Lib.hid (fun w hj => ihl pl s w hj hn.hl ha1)
    have CR := Lib.hid (fun s w hj hr => ihr pr s w hj hn.hr hr)
    have CS := Lib.hid (fun s w hj ha => HS.out.hs s k v w hj ha)
    have HA := Lib.hid ha2
    have HR := Lib.hid (runS_append f s l.list ((k, v) :: r.list))
    clear ihl ihr ha ha1 ha2 hn hj ht
    obtain ⟨r1, hr1⟩ : ∃ r1, runS f s l.list = r1 := ⟨_, rfl⟩
    unfold SawIs at CL CR ⊢
    rw [show (GT.node k v l r).list = l.list ++ (k, v) :: r.list from rfl]
    rw [hr1] at CL HR HA
    rw [HR.out]
    clear hr1 HR
    obtain ⟨s1, b1⟩ := r1
    simp only [runS] at CL ⊢
    cases b1 with
    | false =>
      simp only [Bool.false_eq_true, if_false]
      go_enter Try.func96, Try.ntmps96
      go_wp2_with fail
      refine wp_region_state mx (by kernel_rfl) [some (.pointer (some ⟨gn, 0, none⟩)), some (.bool false), some (.bool false), some (.pointer (some ⟨gn, 0, none⟩)), some (.pointer (some ⟨gn, 0, none⟩)), some (.pointer (some ⟨gn, 2, none⟩)), some (.pointer (some ⟨gn, 2, none⟩)), some (.pointer pl), some (.func (.func g) #[] lb), some (.bool false), some (.bool false), some (undef), some (undef), some (undef), some (undef), some (undef), some (undef), some (undef), some (undef), some (undef), some (undef), some (undef), some (undef), some (.bool false), some (.bool false), some (undef), some (undef), some (undef), some (undef), some (undef), some (undef), some (undef), some (.bool false), some (.bool false), some (.bool false)] (fun L x => J (bif L 9 then s1 else s) x) (HS.out.hb _ _ _ HJ.out (Below.refl _ _).drew) ?_ ?_
      · intro i o L vals w2 hi hL hdep hC hJ hV
        have hlt : i < 35 := by have := (List.getElem?_eq_some_iff.1 hi).1; simpa using this
        generalize hA : frA _ _ L vals = a'
        have hT0 : a'.tmps.getD 0 undef = .pointer (some ⟨gn, 0, none⟩) := by rw [← hA, frA_base (by kernel_rfl)]; rfl
        have hT1 : a'.tmps.getD 1 undef = .func (.func g) #[] lb := by rw [← hA, frA_base (by kernel_rfl)]; rfl
        have hD := Lib.hid (fun k t (hk : L k = true) (ht : dstOf _ k = some t) => hA ▸ frA_done (by kernel_rfl) (vals := vals) hk ht)
        clear hA
        have hN2 := HN.out.keep (HS.out.hz _ _ hJ) (HS.out.hk _ _ hJ)
        have n0 := hN2.c0
        have n1 := hN2.c1
        have n2 := hN2.c2
        have n3 := hN2.c3
        clear hN2
        obtain rfl | rfl | rfl | rfl | rfl | rfl | rfl | rfl | rfl | rfl | rfl | rfl | rfl | rfl | rfl | rfl | rfl | rfl | rfl | rfl | rfl | rfl | rfl | rfl | rfl | rfl | rfl | rfl | rfl | rfl | rfl | rfl | rfl | rfl | rfl : i = 0 ∨ i = 1 ∨ i = 2 ∨ i = 3 ∨ i = 4 ∨ i = 5 ∨ i = 6 ∨ i = 7 ∨ i = 8 ∨ i = 9 ∨ i = 10 ∨ i = 11 ∨ i = 12 ∨ i = 13 ∨ i = 14 ∨ i = 15 ∨ i = 16 ∨ i = 17 ∨ i = 18 ∨ i = 19 ∨ i = 20 ∨ i = 21 ∨ i = 22 ∨ i = 23 ∨ i = 24 ∨ i = 25 ∨ i = 26 ∨ i = 27 ∨ i = 28 ∨ i = 29 ∨ i = 30 ∨ i = 31 ∨ i = 32 ∨ i = 33 ∨ i = 34 := by omega
        all_goals
          injection hi with hi
          subst hi
          try simp [Region.binds] at hdep
        · exact step_run rfl (v := .pointer (some ⟨gn, 0, none⟩)) (w' := w2) (by go_simp) ⟨EqV.self rfl, hJ⟩
        · have d5 := hD.out 0 5 (by simp [hdep]) rfl
          rw [show vals 0 = .pointer (some ⟨gn, 0, none⟩) from (hV 0 (by simp [hdep])).of rfl] at d5
          exact step_run rfl (v := .bool false) (w' := w2) (by go_simp) ⟨EqV.self rfl, hJ⟩
        · have d6 := hD.out 1 6 (by simp [hdep]) rfl
          rw [show vals 1 = .bool false from (hV 1 (by simp [hdep])).of rfl] at d6
          exact step_run rfl (v := .bool false) (w' := w2) (by go_simp) ⟨EqV.self rfl, hJ⟩
        · have d7 := hD.out 2 7 (by simp [hdep]) rfl
          rw [show vals 2 = .bool false from (hV 2 (by simp [hdep])).of rfl] at d7
          exact step_run' (wanted_open rfl rfl d7) (v := .pointer (some ⟨gn, 0, none⟩)) (w' := w2) (by go_simp) ⟨EqV.self rfl, hJ⟩
        · have d8 := hD.out 3 8 (by simp [hdep]) rfl
          rw [show vals 3 = .pointer (some ⟨gn, 0, none⟩) from (hV 3 (by simp [hdep])).of rfl] at d8
          have d7 := hD.out 2 7 (by simp [hdep]) rfl
          rw [show vals 2 = .bool false from (hV 2 (by simp [hdep])).of rfl] at d7
          exact step_run' (wanted_open rfl rfl d7) (v := .pointer (some ⟨gn, 0, none⟩)) (w' := w2) (by go_simp) ⟨EqV.self rfl, hJ⟩
        · have d9 := hD.out 4 9 (by simp [hdep]) rfl
          rw [show vals 4 = .pointer (some ⟨gn, 0, none⟩) from (hV 4 (by simp [hdep])).of rfl] at d9
          have d7 := hD.out 2 7 (by simp [hdep]) rfl
          rw [show vals 2 = .bool false from (hV 2 (by simp [hdep])).of rfl] at d7
          exact step_run' (wanted_open rfl rfl d7) (v := .pointer (some ⟨gn, 2, none⟩)) (w' := w2) (by go_simp) ⟨EqV.self rfl, hJ⟩
        · have d10 := hD.out 5 10 (by simp [hdep]) rfl
          rw [show vals 5 = .pointer (some ⟨gn, 2, none⟩) from (hV 5 (by simp [hdep])).of rfl] at d10
          have d7 := hD.out 2 7 (by simp [hdep]) rfl
          rw [show vals 2 = .bool false from (hV 2 (by simp [hdep])).of rfl] at d7
          exact step_run' (wanted_open rfl rfl d7) (v := .pointer (some ⟨gn, 2, none⟩)) (w' := w2) (by go_simp) ⟨EqV.self rfl, hJ⟩
        · have d11 := hD.out 6 11 (by simp [hdep]) rfl
          rw [show vals 6 = .pointer (some ⟨gn, 2, none⟩) from (hV 6 (by simp [hdep])).of rfl] at d11
          have d7 := hD.out 2 7 (by simp [hdep]) rfl
          rw [show vals 2 = .bool false from (hV 2 (by simp [hdep])).of rfl] at d7
          exact step_run' (wanted_open rfl rfl d7) (v := .pointer pl) (w' := w2) (by go_simp) ⟨EqV.self rfl, hJ⟩
        · have d7 := hD.out 2 7 (by simp [hdep]) rfl
          rw [show vals 2 = .bool false from (hV 2 (by simp [hdep])).of rfl] at d7
          exact step_run' (wanted_open rfl rfl d7) (v := .func (.func g) #[] lb) (w' := w2) (by go_simp) ⟨EqV.self rfl, hJ⟩
        · have d12 := hD.out 7 12 (by simp [hdep]) rfl
          rw [show vals 7 = .pointer pl from (hV 7 (by simp [hdep])).of rfl] at d12
          have d13 := hD.out 8 13 (by simp [hdep]) rfl
          rw [show vals 8 = .func (.func g) #[] lb from (hV 8 (by simp [hdep])).of rfl] at d13
          have d7 := hD.out 2 7 (by simp [hdep]) rfl
          rw [show vals 2 = .bool false from (hV 2 (by simp [hdep])).of rfl] at d7
          skip
          refine step_enter' (wanted_open rfl rfl d7) (w' := w2) (by go_simp) ((CL.out w2 (by simpa [hL] using hJ)).mono ?_)
          rintro e w1 ⟨rfl, hj1⟩
          exact ⟨_, rfl, EqV.self rfl, by simpa [updL] using hj1⟩
        · have d14 := hD.out 9 14 (by simp [hdep]) rfl
          rw [show vals 9 = .bool false from (hV 9 (by simp [hdep])).of rfl] at d14
          have d7 := hD.out 2 7 (by simp [hdep]) rfl
          rw [show vals 2 = .bool false from (hV 2 (by simp [hdep])).of rfl] at d7
          exact step_run' (wanted_open rfl rfl d7) (v := .bool false) (w' := w2) (by go_simp) ⟨EqV.self rfl, hJ⟩
        · have d15 := hD.out 10 15 (by simp [hdep]) rfl
          rw [show vals 10 = .bool false from (hV 10 (by simp [hdep])).of rfl] at d15
          exact step_shut (wanted_shut rfl rfl d15 (by decide)) ⟨EqV.self rfl, hJ⟩
        · have d15 := hD.out 10 15 (by simp [hdep]) rfl
          rw [show vals 10 = .bool false from (hV 10 (by simp [hdep])).of rfl] at d15
          exact step_shut (wanted_shut rfl rfl d15 (by decide)) ⟨EqV.self rfl, hJ⟩
        · have d17 := hD.out 12 17 (by simp [hdep]) rfl
          rw [show vals 12 = undef from (hV 12 (by simp [hdep])).of rfl] at d17
          have d15 := hD.out 10 15 (by simp [hdep]) rfl
          rw [show vals 10 = .bool false from (hV 10 (by simp [hdep])).of rfl] at d15
          exact step_shut (wanted_shut rfl rfl d15 (by decide)) ⟨EqV.self rfl, hJ⟩
        · have d18 := hD.out 13 18 (by simp [hdep]) rfl
          rw [show vals 13 = undef from (hV 13 (by simp [hdep])).of rfl] at d18
          have d15 := hD.out 10 15 (by simp [hdep]) rfl
          rw [show vals 10 = .bool false from (hV 10 (by simp [hdep])).of rfl] at d15
          exact step_shut (wanted_shut rfl rfl d15 (by decide)) ⟨EqV.self rfl, hJ⟩
        · have d19 := hD.out 14 19 (by simp [hdep]) rfl
          rw [show vals 14 = undef from (hV 14 (by simp [hdep])).of rfl] at d19
          have d15 := hD.out 10 15 (by simp [hdep]) rfl
          rw [show vals 10 = .bool false from (hV 10 (by simp [hdep])).of rfl] at d15
          exact step_shut (wanted_shut rfl rfl d15 (by decide)) ⟨EqV.self rfl, hJ⟩
        · have d20 := hD.out 15 20 (by simp [hdep]) rfl
          rw [show vals 15 = undef from (hV 15 (by simp [hdep])).of rfl] at d20
          have d15 := hD.out 10 15 (by simp [hdep]) rfl
          rw [show vals 10 = .bool false from (hV 10 (by simp [hdep])).of rfl] at d15
          exact step_shut (wanted_shut rfl rfl d15 (by decide)) ⟨EqV.self rfl, hJ⟩
        · have d15 := hD.out 10 15 (by simp [hdep]) rfl
          rw [show vals 10 = .bool false from (hV 10 (by simp [hdep])).of rfl] at d15
          exact step_shut (wanted_shut rfl rfl d15 (by decide)) ⟨EqV.self rfl, hJ⟩
        · have d22 := hD.out 17 22 (by simp [hdep]) rfl
          rw [show vals 17 = undef from (hV 17 (by simp [hdep])).of rfl] at d22
          have d15 := hD.out 10 15 (by simp [hdep]) rfl
          rw [show vals 10 = .bool false from (hV 10 (by simp [hdep])).of rfl] at d15
          exact step_shut (wanted_shut rfl rfl d15 (by decide)) ⟨EqV.self rfl, hJ⟩
        · have d23 := hD.out 18 23 (by simp [hdep]) rfl
          rw [show vals 18 = undef from (hV 18 (by simp [hdep])).of rfl] at d23
          have d15 := hD.out 10 15 (by simp [hdep]) rfl
          rw [show vals 10 = .bool false from (hV 10 (by simp [hdep])).of rfl] at d15
          exact step_shut (wanted_shut rfl rfl d15 (by decide)) ⟨EqV.self rfl, hJ⟩
        · have d24 := hD.out 19 24 (by simp [hdep]) rfl
          rw [show vals 19 = undef from (hV 19 (by simp [hdep])).of rfl] at d24
          have d15 := hD.out 10 15 (by simp [hdep]) rfl
          rw [show vals 10 = .bool false from (hV 10 (by simp [hdep])).of rfl] at d15
          exact step_shut (wanted_shut rfl rfl d15 (by decide)) ⟨EqV.self rfl, hJ⟩
        · have d25 := hD.out 20 25 (by simp [hdep]) rfl
          rw [show vals 20 = undef from (hV 20 (by simp [hdep])).of rfl] at d25
          have d15 := hD.out 10 15 (by simp [hdep]) rfl
          rw [show vals 10 = .bool false from (hV 10 (by simp [hdep])).of rfl] at d15
          exact step_shut (wanted_shut rfl rfl d15 (by decide)) ⟨EqV.self rfl, hJ⟩
        · have d16 := hD.out 11 16 (by simp [hdep]) rfl
          rw [show vals 11 = undef from (hV 11 (by simp [hdep])).of rfl] at d16
          have d21 := hD.out 16 21 (by simp [hdep]) rfl
          rw [show vals 16 = undef from (hV 16 (by simp [hdep])).of rfl] at d21
          have d26 := hD.out 21 26 (by simp [hdep]) rfl
          rw [show vals 21 = undef from (hV 21 (by simp [hdep])).of rfl] at d26
          have d15 := hD.out 10 15 (by simp [hdep]) rfl
          rw [show vals 10 = .bool false from (hV 10 (by simp [hdep])).of rfl] at d15
          exact step_shut (wanted_shut rfl rfl d15 (by decide)) ⟨EqV.self rfl, hJ⟩
        · have d15 := hD.out 10 15 (by simp [hdep]) rfl
          rw [show vals 10 = .bool false from (hV 10 (by simp [hdep])).of rfl] at d15
          have d27 := hD.out 22 27 (by simp [hdep]) rfl
          rw [show vals 22 = undef from (hV 22 (by simp [hdep])).of rfl] at d27
          have d7 := hD.out 2 7 (by simp [hdep]) rfl
          rw [show vals 2 = .bool false from (hV 2 (by simp [hdep])).of rfl] at d7
          exact step_run' (wanted_open rfl rfl d7) (v := .bool false) (w' := w2) (by go_simp) ⟨EqV.self rfl, hJ⟩
        · have d28 := hD.out 23 28 (by simp [hdep]) rfl
          rw [show vals 23 = .bool false from (hV 23 (by simp [hdep])).of rfl] at d28
          have d7 := hD.out 2 7 (by simp [hdep]) rfl
          rw [show vals 2 = .bool false from (hV 2 (by simp [hdep])).of rfl] at d7
          exact step_run' (wanted_open rfl rfl d7) (v := .bool false) (w' := w2) (by go_simp) ⟨EqV.self rfl, hJ⟩
        · have d29 := hD.out 24 29 (by simp [hdep]) rfl
          rw [show vals 24 = .bool false from (hV 24 (by simp [hdep])).of rfl] at d29
          exact step_shut (wanted_shut rfl rfl d29 (by decide)) ⟨EqV.self rfl, hJ⟩
        · have d30 := hD.out 25 30 (by simp [hdep]) rfl
          rw [show vals 25 = undef from (hV 25 (by simp [hdep])).of rfl] at d30
          have d29 := hD.out 24 29 (by simp [hdep]) rfl
          rw [show vals 24 = .bool false from (hV 24 (by simp [hdep])).of rfl] at d29
          exact step_shut (wanted_shut rfl rfl d29 (by decide)) ⟨EqV.self rfl, hJ⟩
        · have d31 := hD.out 26 31 (by simp [hdep]) rfl
          rw [show vals 26 = undef from (hV 26 (by simp [hdep])).of rfl] at d31
          have d29 := hD.out 24 29 (by simp [hdep]) rfl
          rw [show vals 24 = .bool false from (hV 24 (by simp [hdep])).of rfl] at d29
          exact step_shut (wanted_shut rfl rfl d29 (by decide)) ⟨EqV.self rfl, hJ⟩
        · have d32 := hD.out 27 32 (by simp [hdep]) rfl
          rw [show vals 27 = undef from (hV 27 (by simp [hdep])).of rfl] at d32
          have d29 := hD.out 24 29 (by simp [hdep]) rfl
          rw [show vals 24 = .bool false from (hV 24 (by simp [hdep])).of rfl] at d29
          exact step_shut (wanted_shut rfl rfl d29 (by decide)) ⟨EqV.self rfl, hJ⟩
        · have d33 := hD.out 28 33 (by simp [hdep]) rfl
          rw [show vals 28 = undef from (hV 28 (by simp [hdep])).of rfl] at d33
          have d29 := hD.out 24 29 (by simp [hdep]) rfl
          rw [show vals 24 = .bool false from (hV 24 (by simp [hdep])).of rfl] at d29
          exact step_shut (wanted_shut rfl rfl d29 (by decide)) ⟨EqV.self rfl, hJ⟩
        · have d29 := hD.out 24 29 (by simp [hdep]) rfl
          rw [show vals 24 = .bool false from (hV 24 (by simp [hdep])).of rfl] at d29
          exact step_shut (wanted_shut rfl rfl d29 (by decide)) ⟨EqV.self rfl, hJ⟩
        · have d34 := hD.out 29 34 (by simp [hdep]) rfl
          rw [show vals 29 = undef from (hV 29 (by simp [hdep])).of rfl] at d34
          have d35 := hD.out 30 35 (by simp [hdep]) rfl
          rw [show vals 30 = undef from (hV 30 (by simp [hdep])).of rfl] at d35
          have d29 := hD.out 24 29 (by simp [hdep]) rfl
          rw [show vals 24 = .bool false from (hV 24 (by simp [hdep])).of rfl] at d29
          exact step_shut (wanted_shut rfl rfl d29 (by decide)) ⟨EqV.self rfl, hJ⟩
        · have d29 := hD.out 24 29 (by simp [hdep]) rfl
          rw [show vals 24 = .bool false from (hV 24 (by simp [hdep])).of rfl] at d29
          have d36 := hD.out 31 36 (by simp [hdep]) rfl
          rw [show vals 31 = undef from (hV 31 (by simp [hdep])).of rfl] at d36
          have d7 := hD.out 2 7 (by simp [hdep]) rfl
          rw [show vals 2 = .bool false from (hV 2 (by simp [hdep])).of rfl] at d7
          exact step_run' (wanted_open rfl rfl d7) (v := .bool false) (w' := w2) (by go_simp) ⟨EqV.self rfl, hJ⟩
        · have d7 := hD.out 2 7 (by simp [hdep]) rfl
          rw [show vals 2 = .bool false from (hV 2 (by simp [hdep])).of rfl] at d7
          have d37 := hD.out 32 37 (by simp [hdep]) rfl
          rw [show vals 32 = .bool false from (hV 32 (by simp [hdep])).of rfl] at d37
          exact step_run rfl (v := .bool false) (w' := w2) (by go_simp) ⟨EqV.self rfl, hJ⟩
        · have d38 := hD.out 33 38 (by simp [hdep]) rfl
          rw [show vals 33 = .bool false from (hV 33 (by simp [hdep])).of rfl] at d38
          exact step_run rfl (v := .bool false) (w' := w2) (by go_simp) ⟨EqV.self rfl, hJ⟩
      · intro vals w2 hJ hV
        have e0 : vals 0 = .pointer (some ⟨gn, 0, none⟩) := (hV 0 (by decide)).of rfl
        have e1 : vals 1 = .bool false := (hV 1 (by decide)).of rfl
        have e2 : vals 2 = .bool false := (hV 2 (by decide)).of rfl
        have e3 : vals 3 = .pointer (some ⟨gn, 0, none⟩) := (hV 3 (by decide)).of rfl
        have e4 : vals 4 = .pointer (some ⟨gn, 0, none⟩) := (hV 4 (by decide)).of rfl
        have e5 : vals 5 = .pointer (some ⟨gn, 2, none⟩) := (hV 5 (by decide)).of rfl
        have e6 : vals 6 = .pointer (some ⟨gn, 2, none⟩) := (hV 6 (by decide)).of rfl
        have e7 : vals 7 = .pointer pl := (hV 7 (by decide)).of rfl
        have e8 : vals 8 = .func (.func g) #[] lb := (hV 8 (by decide)).of rfl
        have e9 : vals 9 = .bool false := (hV 9 (by decide)).of rfl
        have e10 : vals 10 = .bool false := (hV 10 (by decide)).of rfl
        have e11 : vals 11 = undef := (hV 11 (by decide)).of rfl
        have e12 : vals 12 = undef := (hV 12 (by decide)).of rfl
        have e13 : vals 13 = undef := (hV 13 (by decide)).of rfl
        have e14 : vals 14 = undef := (hV 14 (by decide)).of rfl
        have e15 : vals 15 = undef := (hV 15 (by decide)).of rfl
        have e16 : vals 16 = undef := (hV 16 (by decide)).of rfl
        have e17 : vals 17 = undef := (hV 17 (by decide)).of rfl
        have e18 : vals 18 = undef := (hV 18 (by decide)).of rfl
        have e19 : vals 19 = undef := (hV 19 (by decide)).of rfl
        have e20 : vals 20 = undef := (hV 20 (by decide)).of rfl
        have e21 : vals 21 = undef := (hV 21 (by decide)).of rfl
        have e22 : vals 22 = undef := (hV 22 (by decide)).of rfl
        have e23 : vals 23 = .bool false := (hV 23 (by decide)).of rfl
        have e24 : vals 24 = .bool false := (hV 24 (by decide)).of rfl
        have e25 : vals 25 = undef := (hV 25 (by decide)).of rfl
        have e26 : vals 26 = undef := (hV 26 (by decide)).of rfl
        have e27 : vals 27 = undef := (hV 27 (by decide)).of rfl
        have e28 : vals 28 = undef := (hV 28 (by decide)).of rfl
        have e29 : vals 29 = undef := (hV 29 (by decide)).of rfl
        have e30 : vals 30 = undef := (hV 30 (by decide)).of rfl
        have e31 : vals 31 = undef := (hV 31 (by decide)).of rfl
        have e32 : vals 32 = .bool false := (hV 32 (by decide)).of rfl
        have e33 : vals 33 = .bool false := (hV 33 (by decide)).of rfl
        have e34 : vals 34 = .bool false := (hV 34 (by decide)).of rfl
        simp only [putsL, Act.put, List.setIfInBounds_toArray, List.set_cons_zero, List.set_cons_succ, e0, e1, e2, e3, e4, e5, e6, e7, e8, e9, e10, e11, e12, e13, e14, e15, e16, e17, e18, e19, e20, e21, e22, e23, e24, e25, e26, e27, e28, e29, e30, e31, e32, e33, e34]
        clear e0 e1 e2 e3 e4 e5 e6 e7 e8 e9 e10 e11 e12 e13 e14 e15 e16 e17 e18 e19 e20 e21 e22 e23 e24 e25 e26 e27 e28 e29 e30 e31 e32 e33 e34
        have HJ2 := Lib.hid hJ
        clear hJ hV
        go_wp2_with fail
        go_ret
        exact ⟨rfl, HJ2.out⟩
    | true =>
      simp only [if_true]
      have hA1 := HA.out rfl
      simp only [RunOk] at hA1
      have CS1 := Lib.hid (fun w hj => CS.out s1 w hj hA1.1)
      have HA1 := Lib.hid hA1.2
      clear hA1 HA
      obtain ⟨r2, hr2⟩ : ∃ r2, f s1 k v = r2 := ⟨_, rfl⟩
      rw [hr2] at CS1 HA1 ⊢
      clear hr2 CS
      obtain ⟨s2, b2⟩ := r2
      simp only at CS1 ⊢
      cases b2 with
      | false =>
        simp only [Bool.false_eq_true, if_false]
        go_enter Try.func96, Try.ntmps96
        go_wp2_with fail
        refine wp_region_state mx (by kernel_rfl) [some (.pointer (some ⟨gn, 0, none⟩)), some (.bool false), some (.bool false), some (.pointer (some ⟨gn, 0, none⟩)), some (.pointer (some ⟨gn, 0, none⟩)), some (.pointer (some ⟨gn, 2, none⟩)), some (.pointer (some ⟨gn, 2, none⟩)), some (.pointer pl), some (.func (.func g) #[] lb), some (.bool true), some (.bool true), some (.func (.func g) #[] lb), some (.pointer (some ⟨gn, 0, none⟩)), some (.pointer (some ⟨gn, 0, none⟩)), some (.pointer (some ⟨gn, 0, none⟩)), some (.pointer (some ⟨gn, 0, none⟩)), some (.int .i64 k), some (.pointer (some ⟨gn, 0, none⟩)), some (.pointer (some ⟨gn, 0, none⟩)), some (.pointer (some ⟨gn, 0, none⟩)), some (.pointer (some ⟨gn, 1, none⟩)), some (.string v), some (.bool false), some (.bool false), some (.bool false), some (undef), some (undef), some (undef), some (undef), some (undef), some (undef), some (undef), some (.bool false), some (.bool false), some (.bool false)] (fun L x => J (bif L 22 then s2 else bif L 9 then s1 else s) x) (HS.out.hb _ _ _ HJ.out (Below.refl _ _).drew) ?_ ?_
        · intro i o L vals w2 hi hL hdep hC hJ hV
          have hlt : i < 35 := by have := (List.getElem?_eq_some_iff.1 hi).1; simpa using this
          generalize hA : frA _ _ L vals = a'
          have hT0 : a'.tmps.getD 0 undef = .pointer (some ⟨gn, 0, none⟩) := by rw [← hA, frA_base (by kernel_rfl)]; rfl
          have hT1 : a'.tmps.getD 1 undef = .func (.func g) #[] lb := by rw [← hA, frA_base (by kernel_rfl)]; rfl
          have hD := Lib.hid (fun k t (hk : L k = true) (ht : dstOf _ k = some t) => hA ▸ frA_done (by kernel_rfl) (vals := vals) hk ht)
          clear hA
          have hN2 := HN.out.keep (HS.out.hz _ _ hJ) (HS.out.hk _ _ hJ)
          have n0 := hN2.c0
          have n1 := hN2.c1
          have n2 := hN2.c2
          have n3 := hN2.c3
          clear hN2
          obtain rfl | rfl | rfl | rfl | rfl | rfl | rfl | rfl | rfl | rfl | rfl | rfl | rfl | rfl | rfl | rfl | rfl | rfl | rfl | rfl | rfl | rfl | rfl | rfl | rfl | rfl | rfl | rfl | rfl | rfl | rfl | rfl | rfl | rfl | rfl : i = 0 ∨ i = 1 ∨ i = 2 ∨ i = 3 ∨ i = 4 ∨ i = 5 ∨ i = 6 ∨ i = 7 ∨ i = 8 ∨ i = 9 ∨ i = 10 ∨ i = 11 ∨ i = 12 ∨ i = 13 ∨ i = 14 ∨ i = 15 ∨ i = 16 ∨ i = 17 ∨ i = 18 ∨ i = 19 ∨ i = 20 ∨ i = 21 ∨ i = 22 ∨ i = 23 ∨ i = 24 ∨ i = 25 ∨ i = 26 ∨ i = 27 ∨ i = 28 ∨ i = 29 ∨ i = 30 ∨ i = 31 ∨ i = 32 ∨ i = 33 ∨ i = 34 := by omega
          all_goals
            injection hi with hi
            subst hi
            try simp [Region.binds] at hdep
          · exact step_run rfl (v := .pointer (some ⟨gn, 0, none⟩)) (w' := w2) (by go_simp) ⟨EqV.self rfl, hJ⟩
          · have d5 := hD.out 0 5 (by simp [hdep]) rfl
            rw [show vals 0 = .pointer (some ⟨gn, 0, none⟩) from (hV 0 (by simp [hdep])).of rfl] at d5
            exact step_run rfl (v := .bool false) (w' := w2) (by go_simp) ⟨EqV.self rfl, hJ⟩
          · have d6 := hD.out 1 6 (by simp [hdep]) rfl
            rw [show vals 1 = .bool false from (hV 1 (by simp [hdep])).of rfl] at d6
            exact step_run rfl (v := .bool false) (w' := w2) (by go_simp) ⟨EqV.self rfl, hJ⟩
          · have d7 := hD.out 2 7 (by simp [hdep]) rfl
            rw [show vals 2 = .bool false from (hV 2 (by simp [hdep])).of rfl] at d7
            exact step_run' (wanted_open rfl rfl d7) (v := .pointer (some ⟨gn, 0, none⟩)) (w' := w2) (by go_simp) ⟨EqV.self rfl, hJ⟩
          · have d8 := hD.out 3 8 (by simp [hdep]) rfl
            rw [show vals 3 = .pointer (some ⟨gn, 0, none⟩) from (hV 3 (by simp [hdep])).of rfl] at d8
            have d7 := hD.out 2 7 (by simp [hdep]) rfl
            rw [show vals 2 = .bool false from (hV 2 (by simp [hdep])).of rfl] at d7
            exact step_run' (wanted_open rfl rfl d7) (v := .pointer (some ⟨gn, 0, none⟩)) (w' := w2) (by go_simp) ⟨EqV.self rfl, hJ⟩
          · have d9 := hD.out 4 9 (by simp [hdep]) rfl
            rw [show vals 4 = .pointer (some ⟨gn, 0, none⟩) from (hV 4 (by simp [hdep])).of rfl] at d9
            have d7 := hD.out 2 7 (by simp [hdep]) rfl
            rw [show vals 2 = .bool false from (hV 2 (by simp [hdep])).of rfl] at d7
            exact step_run' (wanted_open rfl rfl d7) (v := .pointer (some ⟨gn, 2, none⟩)) (w' := w2) (by go_simp) ⟨EqV.self rfl, hJ⟩
          · have d10 := hD.out 5 10 (by simp [hdep]) rfl
            rw [show vals 5 = .pointer (some ⟨gn, 2, none⟩) from (hV 5 (by simp [hdep])).of rfl] at d10
            have d7 := hD.out 2 7 (by simp [hdep]) rfl
            rw [show vals 2 = .bool false from (hV 2 (by simp [hdep])).of rfl] at d7
            exact step_run' (wanted_open rfl rfl d7) (v := .pointer (some ⟨gn, 2, none⟩)) (w' := w2) (by go_simp) ⟨EqV.self rfl, hJ⟩
          · have d11 := hD.out 6 11 (by simp [hdep]) rfl
            rw [show vals 6 = .pointer (some ⟨gn, 2, none⟩) from (hV 6 (by simp [hdep])).of rfl] at d11
            have d7 := hD.out 2 7 (by simp [hdep]) rfl
            rw [show vals 2 = .bool false from (hV 2 (by simp [hdep])).of rfl] at d7
            exact step_run' (wanted_open rfl rfl d7) (v := .pointer pl) (w' := w2) (by go_simp) ⟨EqV.self rfl, hJ⟩
          · have d7 := hD.out 2 7 (by simp [hdep]) rfl
            rw [show vals 2 = .bool false from (hV 2 (by simp [hdep])).of rfl] at d7
            exact step_run' (wanted_open rfl rfl d7) (v := .func (.func g) #[] lb) (w' := w2) (by go_simp) ⟨EqV.self rfl, hJ⟩
          · have d12 := hD.out 7 12 (by simp [hdep]) rfl
            rw [show vals 7 = .pointer pl from (hV 7 (by simp [hdep])).of rfl] at d12
            have d13 := hD.out 8 13 (by simp [hdep]) rfl
            rw [show vals 8 = .func (.func g) #[] lb from (hV 8 (by simp [hdep])).of rfl] at d13
            have d7 := hD.out 2 7 (by simp [hdep]) rfl
            rw [show vals 2 = .bool false from (hV 2 (by simp [hdep])).of rfl] at d7
            have hno22 : L 22 = false := by
              cases h : L 22 with
              | false => rfl
              | true => exact absurd (hC.path [22, 10, 9] (by kernel_rfl) 22 rfl h 9 rfl) (by simp [hL])
            refine step_enter' (wanted_open rfl rfl d7) (w' := w2) (by go_simp) ((CL.out w2 (by simpa [hL, hno22] using hJ)).mono ?_)
            rintro e w1 ⟨rfl, hj1⟩
            exact ⟨_, rfl, EqV.self rfl, by simpa [updL, hno22] using hj1⟩
          · have d14 := hD.out 9 14 (by simp [hdep]) rfl
            rw [show vals 9 = .bool true from (hV 9 (by simp [hdep])).of rfl] at d14
            have d7 := hD.out 2 7 (by simp [hdep]) rfl
            rw [show vals 2 = .bool false from (hV 2 (by simp [hdep])).of rfl] at d7
            exact step_run' (wanted_open rfl rfl d7) (v := .bool true) (w' := w2) (by go_simp) ⟨EqV.self rfl, hJ⟩
          · have d15 := hD.out 10 15 (by simp [hdep]) rfl
            rw [show vals 10 = .bool true from (hV 10 (by simp [hdep])).of rfl] at d15
            exact step_run' (wanted_open rfl rfl d15) (v := .func (.func g) #[] lb) (w' := w2) (by go_simp) ⟨EqV.self rfl, hJ⟩
          · have d15 := hD.out 10 15 (by simp [hdep]) rfl
            rw [show vals 10 = .bool true from (hV 10 (by simp [hdep])).of rfl] at d15
            exact step_run' (wanted_open rfl rfl d15) (v := .pointer (some ⟨gn, 0, none⟩)) (w' := w2) (by go_simp) ⟨EqV.self rfl, hJ⟩
          · have d17 := hD.out 12 17 (by simp [hdep]) rfl
            rw [show vals 12 = .pointer (some ⟨gn, 0, none⟩) from (hV 12 (by simp [hdep])).of rfl] at d17
            have d15 := hD.out 10 15 (by simp [hdep]) rfl
            rw [show vals 10 = .bool true from (hV 10 (by simp [hdep])).of rfl] at d15
            exact step_run' (wanted_open rfl rfl d15) (v := .pointer (some ⟨gn, 0, none⟩)) (w' := w2) (by go_simp) ⟨EqV.self rfl, hJ⟩
          · have d18 := hD.out 13 18 (by simp [hdep]) rfl
            rw [show vals 13 = .pointer (some ⟨gn, 0, none⟩) from (hV 13 (by simp [hdep])).of rfl] at d18
            have d15 := hD.out 10 15 (by simp [hdep]) rfl
            rw [show vals 10 = .bool true from (hV 10 (by simp [hdep])).of rfl] at d15
            exact step_run' (wanted_open rfl rfl d15) (v := .pointer (some ⟨gn, 0, none⟩)) (w' := w2) (by go_simp) ⟨EqV.self rfl, hJ⟩
          · have d19 := hD.out 14 19 (by simp [hdep]) rfl
            rw [show vals 14 = .pointer (some ⟨gn, 0, none⟩) from (hV 14 (by simp [hdep])).of rfl] at d19
            have d15 := hD.out 10 15 (by simp [hdep]) rfl
            rw [show vals 10 = .bool true from (hV 10 (by simp [hdep])).of rfl] at d15
            exact step_run' (wanted_open rfl rfl d15) (v := .pointer (some ⟨gn, 0, none⟩)) (w' := w2) (by go_simp) ⟨EqV.self rfl, hJ⟩
          · have d20 := hD.out 15 20 (by simp [hdep]) rfl
            rw [show vals 15 = .pointer (some ⟨gn, 0, none⟩) from (hV 15 (by simp [hdep])).of rfl] at d20
            have d15 := hD.out 10 15 (by simp [hdep]) rfl
            rw [show vals 10 = .bool true from (hV 10 (by simp [hdep])).of rfl] at d15
            exact step_run' (wanted_open rfl rfl d15) (v := .int .i64 k) (w' := w2) (by go_simp) ⟨EqV.self rfl, hJ⟩
          · have d15 := hD.out 10 15 (by simp [hdep]) rfl
            rw [show vals 10 = .bool true from (hV 10 (by simp [hdep])).of rfl] at d15
            exact step_run' (wanted_open rfl rfl d15) (v := .pointer (some ⟨gn, 0, none⟩)) (w' := w2) (by go_simp) ⟨EqV.self rfl, hJ⟩
          · have d22 := hD.out 17 22 (by simp [hdep]) rfl
            rw [show vals 17 = .pointer (some ⟨gn, 0, none⟩) from (hV 17 (by simp [hdep])).of rfl] at d22
            have d15 := hD.out 10 15 (by simp [hdep]) rfl
            rw [show vals 10 = .bool true from (hV 10 (by simp [hdep])).of rfl] at d15
            exact step_run' (wanted_open rfl rfl d15) (v := .pointer (some ⟨gn, 0, none⟩)) (w' := w2) (by go_simp) ⟨EqV.self rfl, hJ⟩
          · have d23 := hD.out 18 23 (by simp [hdep]) rfl
            rw [show vals 18 = .pointer (some ⟨gn, 0, none⟩) from (hV 18 (by simp [hdep])).of rfl] at d23
            have d15 := hD.out 10 15 (by simp [hdep]) rfl
            rw [show vals 10 = .bool true from (hV 10 (by simp [hdep])).of rfl] at d15
            exact step_run' (wanted_open rfl rfl d15) (v := .pointer (some ⟨gn, 0, none⟩)) (w' := w2) (by go_simp) ⟨EqV.self rfl, hJ⟩
          · have d24 := hD.out 19 24 (by simp [hdep]) rfl
            rw [show vals 19 = .pointer (some ⟨gn, 0, none⟩) from (hV 19 (by simp [hdep])).of rfl] at d24
            have d15 := hD.out 10 15 (by simp [hdep]) rfl
            rw [show vals 10 = .bool true from (hV 10 (by simp [hdep])).of rfl] at d15
            exact step_run' (wanted_open rfl rfl d15) (v := .pointer (some ⟨gn, 1, none⟩)) (w' := w2) (by go_simp) ⟨EqV.self rfl, hJ⟩
          · have d25 := hD.out 20 25 (by simp [hdep]) rfl
            rw [show vals 20 = .pointer (some ⟨gn, 1, none⟩) from (hV 20 (by simp [hdep])).of rfl] at d25
            have d15 := hD.out 10 15 (by simp [hdep]) rfl
            rw [show vals 10 = .bool true from (hV 10 (by simp [hdep])).of rfl] at d15
            exact step_run' (wanted_open rfl rfl d15) (v := .string v) (w' := w2) (by go_simp) ⟨EqV.self rfl, hJ⟩
          · have d16 := hD.out 11 16 (by simp [hdep]) rfl
            rw [show vals 11 = .func (.func g) #[] lb from (hV 11 (by simp [hdep])).of rfl] at d16
            have d21 := hD.out 16 21 (by simp [hdep]) rfl
            rw [show vals 16 = .int .i64 k from (hV 16 (by simp [hdep])).of rfl] at d21
            have d26 := hD.out 21 26 (by simp [hdep]) rfl
            rw [show vals 21 = .string v from (hV 21 (by simp [hdep])).of rfl] at d26
            have d15 := hD.out 10 15 (by simp [hdep]) rfl
            rw [show vals 10 = .bool true from (hV 10 (by simp [hdep])).of rfl] at d15
            skip
            have hd9 : L 9 = true := hC.path [10, 9] (by kernel_rfl) 10 rfl (by simp [hdep]) 9 rfl
            refine step_enter' (wanted_open rfl rfl d15) (w' := w2) (by go_simp) ((CS1.out w2 (by simpa [hL, hd9] using hJ)).mono ?_)
            rintro e w1 ⟨rfl, hj1⟩
            exact ⟨_, rfl, EqV.self rfl, by simpa [updL] using hj1⟩
          · have d15 := hD.out 10 15 (by simp [hdep]) rfl
            rw [show vals 10 = .bool true from (hV 10 (by simp [hdep])).of rfl] at d15
            have d27 := hD.out 22 27 (by simp [hdep]) rfl
            rw [show vals 22 = .bool false from (hV 22 (by simp [hdep])).of rfl] at d27
            have d7 := hD.out 2 7 (by simp [hdep]) rfl
            rw [show vals 2 = .bool false from (hV 2 (by simp [hdep])).of rfl] at d7
            exact step_run' (wanted_open rfl rfl d7) (v := .bool false) (w' := w2) (by go_simp) ⟨EqV.self rfl, hJ⟩
          · have d28 := hD.out 23 28 (by simp [hdep]) rfl
            rw [show vals 23 = .bool false from (hV 23 (by simp [hdep])).of rfl] at d28
            have d7 := hD.out 2 7 (by simp [hdep]) rfl
            rw [show vals 2 = .bool false from (hV 2 (by simp [hdep])).of rfl] at d7
            exact step_run' (wanted_open rfl rfl d7) (v := .bool false) (w' := w2) (by go_simp) ⟨EqV.self rfl, hJ⟩
          · have d29 := hD.out 24 29 (by simp [hdep]) rfl
            rw [show vals 24 = .bool false from (hV 24 (by simp [hdep])).of rfl] at d29
            exact step_shut (wanted_shut rfl rfl d29 (by decide)) ⟨EqV.self rfl, hJ⟩
          · have d30 := hD.out 25 30 (by simp [hdep]) rfl
            rw [show vals 25 = undef from (hV 25 (by simp [hdep])).of rfl] at d30
            have d29 := hD.out 24 29 (by simp [hdep]) rfl
            rw [show vals 24 = .bool false from (hV 24 (by simp [hdep])).of rfl] at d29
            exact step_shut (wanted_shut rfl rfl d29 (by decide)) ⟨EqV.self rfl, hJ⟩
          · have d31 := hD.out 26 31 (by simp [hdep]) rfl
            rw [show vals 26 = undef from (hV 26 (by simp [hdep])).of rfl] at d31
            have d29 := hD.out 24 29 (by simp [hdep]) rfl
            rw [show vals 24 = .bool false from (hV 24 (by simp [hdep])).of rfl] at d29
            exact step_shut (wanted_shut rfl rfl d29 (by decide)) ⟨EqV.self rfl, hJ⟩
          · have d32 := hD.out 27 32 (by simp [hdep]) rfl
            rw [show vals 27 = undef from (hV 27 (by simp [hdep])).of rfl] at d32
            have d29 := hD.out 24 29 (by simp [hdep]) rfl
            rw [show vals 24 = .bool false from (hV 24 (by simp [hdep])).of rfl] at d29
            exact step_shut (wanted_shut rfl rfl d29 (by decide)) ⟨EqV.self rfl, hJ⟩
          · have d33 := hD.out 28 33 (by simp [hdep]) rfl
            rw [show vals 28 = undef from (hV 28 (by simp [hdep])).of rfl] at d33
            have d29 := hD.out 24 29 (by simp [hdep]) rfl
            rw [show vals 24 = .bool false from (hV 24 (by simp [hdep])).of rfl] at d29
            exact step_shut (wanted_shut rfl rfl d29 (by decide)) ⟨EqV.self rfl, hJ⟩
          · have d29 := hD.out 24 29 (by simp [hdep]) rfl
            rw [show vals 24 = .bool false from (hV 24 (by simp [hdep])).of rfl] at d29
            exact step_shut (wanted_shut rfl rfl d29 (by decide)) ⟨EqV.self rfl, hJ⟩
          · have d34 := hD.out 29 34 (by simp [hdep]) rfl
            rw [show vals 29 = undef from (hV 29 (by simp [hdep])).of rfl] at d34
            have d35 := hD.out 30 35 (by simp [hdep]) rfl
            rw [show vals 30 = undef from (hV 30 (by simp [hdep])).of rfl] at d35
            have d29 := hD.out 24 29 (by simp [hdep]) rfl
            rw [show vals 24 = .bool false from (hV 24 (by simp [hdep])).of rfl] at d29
            exact step_shut (wanted_shut rfl rfl d29 (by decide)) ⟨EqV.self rfl, hJ⟩
          · have d29 := hD.out 24 29 (by simp [hdep]) rfl
            rw [show vals 24 = .bool false from (hV 24 (by simp [hdep])).of rfl] at d29
            have d36 := hD.out 31 36 (by simp [hdep]) rfl
            rw [show vals 31 = undef from (hV 31 (by simp [hdep])).of rfl] at d36
            have d7 := hD.out 2 7 (by simp [hdep]) rfl
            rw [show vals 2 = .bool false from (hV 2 (by simp [hdep])).of rfl] at d7
            exact step_run' (wanted_open rfl rfl d7) (v := .bool false) (w' := w2) (by go_simp) ⟨EqV.self rfl, hJ⟩
          · have d7 := hD.out 2 7 (by simp [hdep]) rfl
            rw [show vals 2 = .bool false from (hV 2 (by simp [hdep])).of rfl] at d7
            have d37 := hD.out 32 37 (by simp [hdep]) rfl
            rw [show vals 32 = .bool false from (hV 32 (by simp [hdep])).of rfl] at d37
            exact step_run rfl (v := .bool false) (w' := w2) (by go_simp) ⟨EqV.self rfl, hJ⟩
          · have d38 := hD.out 33 38 (by simp [hdep]) rfl
            rw [show vals 33 = .bool false from (hV 33 (by simp [hdep])).of rfl] at d38
            exact step_run rfl (v := .bool false) (w' := w2) (by go_simp) ⟨EqV.self rfl, hJ⟩
        · intro vals w2 hJ hV
          have e0 : vals 0 = .pointer (some ⟨gn, 0, none⟩) := (hV 0 (by decide)).of rfl
          have e1 : vals 1 = .bool false := (hV 1 (by decide)).of rfl
          have e2 : vals 2 = .bool false := (hV 2 (by decide)).of rfl
          have e3 : vals 3 = .pointer (some ⟨gn, 0, none⟩) := (hV 3 (by decide)).of rfl
          have e4 : vals 4 = .pointer (some ⟨gn, 0, none⟩) := (hV 4 (by decide)).of rfl
          have e5 : vals 5 = .pointer (some ⟨gn, 2, none⟩) := (hV 5 (by decide)).of rfl
          have e6 : vals 6 = .pointer (some ⟨gn, 2, none⟩) := (hV 6 (by decide)).of rfl
          have e7 : vals 7 = .pointer pl := (hV 7 (by decide)).of rfl
          have e8 : vals 8 = .func (.func g) #[] lb := (hV 8 (by decide)).of rfl
          have e9 : vals 9 = .bool true := (hV 9 (by decide)).of rfl
          have e10 : vals 10 = .bool true := (hV 10 (by decide)).of rfl
          have e11 : vals 11 = .func (.func g) #[] lb := (hV 11 (by decide)).of rfl
          have e12 : vals 12 = .pointer (some ⟨gn, 0, none⟩) := (hV 12 (by decide)).of rfl
          have e13 : vals 13 = .pointer (some ⟨gn, 0, none⟩) := (hV 13 (by decide)).of rfl
          have e14 : vals 14 = .pointer (some ⟨gn, 0, none⟩) := (hV 14 (by decide)).of rfl
          have e15 : vals 15 = .pointer (some ⟨gn, 0, none⟩) := (hV 15 (by decide)).of rfl
          have e16 : vals 16 = .int .i64 k := (hV 16 (by decide)).of rfl
          have e17 : vals 17 = .pointer (some ⟨gn, 0, none⟩) := (hV 17 (by decide)).of rfl
          have e18 : vals 18 = .pointer (some ⟨gn, 0, none⟩) := (hV 18 (by decide)).of rfl
          have e19 : vals 19 = .pointer (some ⟨gn, 0, none⟩) := (hV 19 (by decide)).of rfl
          have e20 : vals 20 = .pointer (some ⟨gn, 1, none⟩) := (hV 20 (by decide)).of rfl
          have e21 : vals 21 = .string v := (hV 21 (by decide)).of rfl
          have e22 : vals 22 = .bool false := (hV 22 (by decide)).of rfl
          have e23 : vals 23 = .bool false := (hV 23 (by decide)).of rfl
          have e24 : vals 24 = .bool false := (hV 24 (by decide)).of rfl
          have e25 : vals 25 = undef := (hV 25 (by decide)).of rfl
          have e26 : vals 26 = undef := (hV 26 (by decide)).of rfl
          have e27 : vals 27 = undef := (hV 27 (by decide)).of rfl
          have e28 : vals 28 = undef := (hV 28 (by decide)).of rfl
          have e29 : vals 29 = undef := (hV 29 (by decide)).of rfl
          have e30 : vals 30 = undef := (hV 30 (by decide)).of rfl
          have e31 : vals 31 = undef := (hV 31 (by decide)).of rfl
          have e32 : vals 32 = .bool false := (hV 32 (by decide)).of rfl
          have e33 : vals 33 = .bool false := (hV 33 (by decide)).of rfl
          have e34 : vals 34 = .bool false := (hV 34 (by decide)).of rfl
          simp only [putsL, Act.put, List.setIfInBounds_toArray, List.set_cons_zero, List.set_cons_succ, e0, e1, e2, e3, e4, e5, e6, e7, e8, e9, e10, e11, e12, e13, e14, e15, e16, e17, e18, e19, e20, e21, e22, e23, e24, e25, e26, e27, e28, e29, e30, e31, e32, e33, e34]
          clear e0 e1 e2 e3 e4 e5 e6 e7 e8 e9 e10 e11 e12 e13 e14 e15 e16 e17 e18 e19 e20 e21 e22 e23 e24 e25 e26 e27 e28 e29 e30 e31 e32 e33 e34
          have HJ2 := Lib.hid hJ
          clear hJ hV
          go_wp2_with fail
          go_ret
          exact ⟨rfl, HJ2.out⟩
      | true =>
        simp only [if_true]
        have hA2 := HA1.out rfl
        have CR2 := Lib.hid (fun w hj => CR.out s2 w hj hA2)
        clear HA1 hA2
        obtain ⟨r3, hr3⟩ : ∃ r3, runS f s2 r.list = r3 := ⟨_, rfl⟩
        rw [hr3] at CR2 ⊢
        clear hr3 CR
        obtain ⟨s3, b3⟩ := r3
        simp only at CR2 ⊢
        go_enter Try.func96, Try.ntmps96
        go_wp2_with fail
        refine wp_region_state mx (by kernel_rfl) [some (.pointer (some ⟨gn, 0, none⟩)), some (.bool false), some (.bool false), some (.pointer (some ⟨gn, 0, none⟩)), some (.pointer (some ⟨gn, 0, none⟩)), some (.pointer (some ⟨gn, 2, none⟩)), some (.pointer (some ⟨gn, 2, none⟩)), some (.pointer pl), some (.func (.func g) #[] lb), some (.bool true), some (.bool true), some (.func (.func g) #[] lb), some (.pointer (some ⟨gn, 0, none⟩)), some (.pointer (some ⟨gn, 0, none⟩)), some (.pointer (some ⟨gn, 0, none⟩)), some (.pointer (some ⟨gn, 0, none⟩)), some (.int .i64 k), some (.pointer (some ⟨gn, 0, none⟩)), some (.pointer (some ⟨gn, 0, none⟩)), some (.pointer (some ⟨gn, 0, none⟩)), some (.pointer (some ⟨gn, 1, none⟩)), some (.string v), some (.bool true), some (.bool true), some (.bool true), some (.pointer (some ⟨gn, 0, none⟩)), some (.pointer (some ⟨gn, 0, none⟩)), some (.pointer (some ⟨gn, 2, none⟩)), some (.pointer (some ⟨gn, 3, none⟩)), some (.pointer pr), some (.func (.func g) #[] lb), some (.bool b3), some (.bool b3), some (.bool b3), some (.bool b3)] (fun L x => J (bif L 31 then s3 else bif L 22 then s2 else bif L 9 then s1 else s) x) (HS.out.hb _ _ _ HJ.out (Below.refl _ _).drew) ?_ ?_
        · intro i o L vals w2 hi hL hdep hC hJ hV
          have hlt : i < 35 := by have := (List.getElem?_eq_some_iff.1 hi).1; simpa using this
          generalize hA : frA _ _ L vals = a'
          have hT0 : a'.tmps.getD 0 undef = .pointer (some ⟨gn, 0, none⟩) := by rw [← hA, frA_base (by kernel_rfl)]; rfl
          have hT1 : a'.tmps.getD 1 undef = .func (.func g) #[] lb := by rw [← hA, frA_base (by kernel_rfl)]; rfl
          have hD := Lib.hid (fun k t (hk : L k = true) (ht : dstOf _ k = some t) => hA ▸ frA_done (by kernel_rfl) (vals := vals) hk ht)
          clear hA
          have hN2 := HN.out.keep (HS.out.hz _ _ hJ) (HS.out.hk _ _ hJ)
          have n0 := hN2.c0
          have n1 := hN2.c1
          have n2 := hN2.c2
          have n3 := hN2.c3
          clear hN2
          obtain rfl | rfl | rfl | rfl | rfl | rfl | rfl | rfl | rfl | rfl | rfl | rfl | rfl | rfl | rfl | rfl | rfl | rfl | rfl | rfl | rfl | rfl | rfl | rfl | rfl | rfl | rfl | rfl | rfl | rfl | rfl | rfl | rfl | rfl | rfl : i = 0 ∨ i = 1 ∨ i = 2 ∨ i = 3 ∨ i = 4 ∨ i = 5 ∨ i = 6 ∨ i = 7 ∨ i = 8 ∨ i = 9 ∨ i = 10 ∨ i = 11 ∨ i = 12 ∨ i = 13 ∨ i = 14 ∨ i = 15 ∨ i = 16 ∨ i = 17 ∨ i = 18 ∨ i = 19 ∨ i = 20 ∨ i = 21 ∨ i = 22 ∨ i = 23 ∨ i = 24 ∨ i = 25 ∨ i = 26 ∨ i = 27 ∨ i = 28 ∨ i = 29 ∨ i = 30 ∨ i = 31 ∨ i = 32 ∨ i = 33 ∨ i = 34 := by omega
          all_goals
            injection hi with hi
            subst hi
            try simp [Region.binds] at hdep
          · exact step_run rfl (v := .pointer (some ⟨gn, 0, none⟩)) (w' := w2) (by go_simp) ⟨EqV.self rfl, hJ⟩
          · have d5 := hD.out 0 5 (by simp [hdep]) rfl
            rw [show vals 0 = .pointer (some ⟨gn, 0, none⟩) from (hV 0 (by simp [hdep])).of rfl] at d5
            exact step_run rfl (v := .bool false) (w' := w2) (by go_simp) ⟨EqV.self rfl, hJ⟩
          · have d6 := hD.out 1 6 (by simp [hdep]) rfl
            rw [show vals 1 = .bool false from (hV 1 (by simp [hdep])).of rfl] at d6
            exact step_run rfl (v := .bool false) (w' := w2) (by go_simp) ⟨EqV.self rfl, hJ⟩
          · have d7 := hD.out 2 7 (by simp [hdep]) rfl
            rw [show vals 2 = .bool false from (hV 2 (by simp [hdep])).of rfl] at d7
            exact step_run' (wanted_open rfl rfl d7) (v := .pointer (some ⟨gn, 0, none⟩)) (w' := w2) (by go_simp) ⟨EqV.self rfl, hJ⟩
          · have d8 := hD.out 3 8 (by simp [hdep]) rfl
            rw [show vals 3 = .pointer (some ⟨gn, 0, none⟩) from (hV 3 (by simp [hdep])).of rfl] at d8
            have d7 := hD.out 2 7 (by simp [hdep]) rfl
            rw [show vals 2 = .bool false from (hV 2 (by simp [hdep])).of rfl] at d7
            exact step_run' (wanted_open rfl rfl d7) (v := .pointer (some ⟨gn, 0, none⟩)) (w' := w2) (by go_simp) ⟨EqV.self rfl, hJ⟩
          · have d9 := hD.out 4 9 (by simp [hdep]) rfl
            rw [show vals 4 = .pointer (some ⟨gn, 0, none⟩) from (hV 4 (by simp [hdep])).of rfl] at d9
            have d7 := hD.out 2 7 (by simp [hdep]) rfl
            rw [show vals 2 = .bool false from (hV 2 (by simp [hdep])).of rfl] at d7
            exact step_run' (wanted_open rfl rfl d7) (v := .pointer (some ⟨gn, 2, none⟩)) (w' := w2) (by go_simp) ⟨EqV.self rfl, hJ⟩
          · have d10 := hD.out 5 10 (by simp [hdep]) rfl
            rw [show vals 5 = .pointer (some ⟨gn, 2, none⟩) from (hV 5 (by simp [hdep])).of rfl] at d10
            have d7 := hD.out 2 7 (by simp [hdep]) rfl
            rw [show vals 2 = .bool false from (hV 2 (by simp [hdep])).of rfl] at d7
            exact step_run' (wanted_open rfl rfl d7) (v := .pointer (some ⟨gn, 2, none⟩)) (w' := w2) (by go_simp) ⟨EqV.self rfl, hJ⟩
          · have d11 := hD.out 6 11 (by simp [hdep]) rfl
            rw [show vals 6 = .pointer (some ⟨gn, 2, none⟩) from (hV 6 (by simp [hdep])).of rfl] at d11
            have d7 := hD.out 2 7 (by simp [hdep]) rfl
            rw [show vals 2 = .bool false from (hV 2 (by simp [hdep])).of rfl] at d7
            exact step_run' (wanted_open rfl rfl d7) (v := .pointer pl) (w' := w2) (by go_simp) ⟨EqV.self rfl, hJ⟩
          · have d7 := hD.out 2 7 (by simp [hdep]) rfl
            rw [show vals 2 = .bool false from (hV 2 (by simp [hdep])).of rfl] at d7
            exact step_run' (wanted_open rfl rfl d7) (v := .func (.func g) #[] lb) (w' := w2) (by go_simp) ⟨EqV.self rfl, hJ⟩
          · have d12 := hD.out 7 12 (by simp [hdep]) rfl
            rw [show vals 7 = .pointer pl from (hV 7 (by simp [hdep])).of rfl] at d12
            have d13 := hD.out 8 13 (by simp [hdep]) rfl
            rw [show vals 8 = .func (.func g) #[] lb from (hV 8 (by simp [hdep])).of rfl] at d13
            have d7 := hD.out 2 7 (by simp [hdep]) rfl
            rw [show vals 2 = .bool false from (hV 2 (by simp [hdep])).of rfl] at d7
            have hno22 : L 22 = false := by
              cases h : L 22 with
              | false => rfl
              | true => exact absurd (hC.path [22, 10, 9] (by kernel_rfl) 22 rfl h 9 rfl) (by simp [hL])
            have hno31 : L 31 = false := by
              cases h : L 31 with
              | false => rfl
              | true => exact absurd (hC.path [31, 24, 23, 10, 9] (by kernel_rfl) 31 rfl h 9 rfl) (by simp [hL])
            refine step_enter' (wanted_open rfl rfl d7) (w' := w2) (by go_simp) ((CL.out w2 (by simpa [hL, hno22, hno31] using hJ)).mono ?_)
            rintro e w1 ⟨rfl, hj1⟩
            exact ⟨_, rfl, EqV.self rfl, by simpa [updL, hno22, hno31] using hj1⟩
          · have d14 := hD.out 9 14 (by simp [hdep]) rfl
            rw [show vals 9 = .bool true from (hV 9 (by simp [hdep])).of rfl] at d14
            have d7 := hD.out 2 7 (by simp [hdep]) rfl
            rw [show vals 2 = .bool false from (hV 2 (by simp [hdep])).of rfl] at d7
            exact step_run' (wanted_open rfl rfl d7) (v := .bool true) (w' := w2) (by go_simp) ⟨EqV.self rfl, hJ⟩
          · have d15 := hD.out 10 15 (by simp [hdep]) rfl
            rw [show vals 10 = .bool true from (hV 10 (by simp [hdep])).of rfl] at d15
            exact step_run' (wanted_open rfl rfl d15) (v := .func (.func g) #[] lb) (w' := w2) (by go_simp) ⟨EqV.self rfl, hJ⟩
          · have d15 := hD.out 10 15 (by simp [hdep]) rfl
            rw [show vals 10 = .bool true from (hV 10 (by simp [hdep])).of rfl] at d15
            exact step_run' (wanted_open rfl rfl d15) (v := .pointer (some ⟨gn, 0, none⟩)) (w' := w2) (by go_simp) ⟨EqV.self rfl, hJ⟩
          · have d17 := hD.out 12 17 (by simp [hdep]) rfl
            rw [show vals 12 = .pointer (some ⟨gn, 0, none⟩) from (hV 12 (by simp [hdep])).of rfl] at d17
            have d15 := hD.out 10 15 (by simp [hdep]) rfl
            rw [show vals 10 = .bool true from (hV 10 (by simp [hdep])).of rfl] at d15
            exact step_run' (wanted_open rfl rfl d15) (v := .pointer (some ⟨gn, 0, none⟩)) (w' := w2) (by go_simp) ⟨EqV.self rfl, hJ⟩
          · have d18 := hD.out 13 18 (by simp [hdep]) rfl
            rw [show vals 13 = .pointer (some ⟨gn, 0, none⟩) from (hV 13 (by simp [hdep])).of rfl] at d18
            have d15 := hD.out 10 15 (by simp [hdep]) rfl
            rw [show vals 10 = .bool true from (hV 10 (by simp [hdep])).of rfl] at d15
            exact step_run' (wanted_open rfl rfl d15) (v := .pointer (some ⟨gn, 0, none⟩)) (w' := w2) (by go_simp) ⟨EqV.self rfl, hJ⟩
          · have d19 := hD.out 14 19 (by simp [hdep]) rfl
            rw [show vals 14 = .pointer (some ⟨gn, 0, none⟩) from (hV 14 (by simp [hdep])).of rfl] at d19
            have d15 := hD.out 10 15 (by simp [hdep]) rfl
            rw [show vals 10 = .bool true from (hV 10 (by simp [hdep])).of rfl] at d15
            exact step_run' (wanted_open rfl rfl d15) (v := .pointer (some ⟨gn, 0, none⟩)) (w' := w2) (by go_simp) ⟨EqV.self rfl, hJ⟩
          · have d20 := hD.out 15 20 (by simp [hdep]) rfl
            rw [show vals 15 = .pointer (some ⟨gn, 0, none⟩) from (hV 15 (by simp [hdep])).of rfl] at d20
            have d15 := hD.out 10 15 (by simp [hdep]) rfl
            rw [show vals 10 = .bool true from (hV 10 (by simp [hdep])).of rfl] at d15
            exact step_run' (wanted_open rfl rfl d15) (v := .int .i64 k) (w' := w2) (by go_simp) ⟨EqV.self rfl, hJ⟩
          · have d15 := hD.out 10 15 (by simp [hdep]) rfl
            rw [show vals 10 = .bool true from (hV 10 (by simp [hdep])).of rfl] at d15
            exact step_run' (wanted_open rfl rfl d15) (v := .pointer (some ⟨gn, 0, none⟩)) (w' := w2) (by go_simp) ⟨EqV.self rfl, hJ⟩
          · have d22 := hD.out 17 22 (by simp [hdep]) rfl
            rw [show vals 17 = .pointer (some ⟨gn, 0, none⟩) from (hV 17 (by simp [hdep])).of rfl] at d22
            have d15 := hD.out 10 15 (by simp [hdep]) rfl
            rw [show vals 10 = .bool true from (hV 10 (by simp [hdep])).of rfl] at d15
            exact step_run' (wanted_open rfl rfl d15) (v := .pointer (some ⟨gn, 0, none⟩)) (w' := w2) (by go_simp) ⟨EqV.self rfl, hJ⟩
          · have d23 := hD.out 18 23 (by simp [hdep]) rfl
            rw [show vals 18 = .pointer (some ⟨gn, 0, none⟩) from (hV 18 (by simp [hdep])).of rfl] at d23
            have d15 := hD.out 10 15 (by simp [hdep]) rfl
            rw [show vals 10 = .bool true from (hV 10 (by simp [hdep])).of rfl] at d15
            exact step_run' (wanted_open rfl rfl d15) (v := .pointer (some ⟨gn, 0, none⟩)) (w' := w2) (by go_simp) ⟨EqV.self rfl, hJ⟩
          · have d24 := hD.out 19 24 (by simp [hdep]) rfl
            rw [show vals 19 = .pointer (some ⟨gn, 0, none⟩) from (hV 19 (by simp [hdep])).of rfl] at d24
            have d15 := hD.out 10 15 (by simp [hdep]) rfl
            rw [show vals 10 = .bool true from (hV 10 (by simp [hdep])).of rfl] at d15
            exact step_run' (wanted_open rfl rfl d15) (v := .pointer (some ⟨gn, 1, none⟩)) (w' := w2) (by go_simp) ⟨EqV.self rfl, hJ⟩
          · have d25 := hD.out 20 25 (by simp [hdep]) rfl
            rw [show vals 20 = .pointer (some ⟨gn, 1, none⟩) from (hV 20 (by simp [hdep])).of rfl] at d25
            have d15 := hD.out 10 15 (by simp [hdep]) rfl
            rw [show vals 10 = .bool true from (hV 10 (by simp [hdep])).of rfl] at d15
            exact step_run' (wanted_open rfl rfl d15) (v := .string v) (w' := w2) (by go_simp) ⟨EqV.self rfl, hJ⟩
          · have d16 := hD.out 11 16 (by simp [hdep]) rfl
            rw [show vals 11 = .func (.func g) #[] lb from (hV 11 (by simp [hdep])).of rfl] at d16
            have d21 := hD.out 16 21 (by simp [hdep]) rfl
            rw [show vals 16 = .int .i64 k from (hV 16 (by simp [hdep])).of rfl] at d21
            have d26 := hD.out 21 26 (by simp [hdep]) rfl
            rw [show vals 21 = .string v from (hV 21 (by simp [hdep])).of rfl] at d26
            have d15 := hD.out 10 15 (by simp [hdep]) rfl
            rw [show vals 10 = .bool true from (hV 10 (by simp [hdep])).of rfl] at d15
            have hno31 : L 31 = false := by
              cases h : L 31 with
              | false => rfl
              | true => exact absurd (hC.path [31, 24, 23, 22] (by kernel_rfl) 31 rfl h 22 rfl) (by simp [hL])
            have hd9 : L 9 = true := hC.path [10, 9] (by kernel_rfl) 10 rfl (by simp [hdep]) 9 rfl
            refine step_enter' (wanted_open rfl rfl d15) (w' := w2) (by go_simp) ((CS1.out w2 (by simpa [hL, hd9, hno31] using hJ)).mono ?_)
            rintro e w1 ⟨rfl, hj1⟩
            exact ⟨_, rfl, EqV.self rfl, by simpa [updL, hno31] using hj1⟩
          · have d15 := hD.out 10 15 (by simp [hdep]) rfl
            rw [show vals 10 = .bool true from (hV 10 (by simp [hdep])).of rfl] at d15
            have d27 := hD.out 22 27 (by simp [hdep]) rfl
            rw [show vals 22 = .bool true from (hV 22 (by simp [hdep])).of rfl] at d27
            have d7 := hD.out 2 7 (by simp [hdep]) rfl
            rw [show vals 2 = .bool false from (hV 2 (by simp [hdep])).of rfl] at d7
            exact step_run' (wanted_open rfl rfl d7) (v := .bool true) (w' := w2) (by go_simp) ⟨EqV.self rfl, hJ⟩
          · have d28 := hD.out 23 28 (by simp [hdep]) rfl
            rw [show vals 23 = .bool true from (hV 23 (by simp [hdep])).of rfl] at d28
            have d7 := hD.out 2 7 (by simp [hdep]) rfl
            rw [show vals 2 = .bool false from (hV 2 (by simp [hdep])).of rfl] at d7
            exact step_run' (wanted_open rfl rfl d7) (v := .bool true) (w' := w2) (by go_simp) ⟨EqV.self rfl, hJ⟩
          · have d29 := hD.out 24 29 (by simp [hdep]) rfl
            rw [show vals 24 = .bool true from (hV 24 (by simp [hdep])).of rfl] at d29
            exact step_run' (wanted_open rfl rfl d29) (v := .pointer (some ⟨gn, 0, none⟩)) (w' := w2) (by go_simp) ⟨EqV.self rfl, hJ⟩
          · have d30 := hD.out 25 30 (by simp [hdep]) rfl
            rw [show vals 25 = .pointer (some ⟨gn, 0, none⟩) from (hV 25 (by simp [hdep])).of rfl] at d30
            have d29 := hD.out 24 29 (by simp [hdep]) rfl
            rw [show vals 24 = .bool true from (hV 24 (by simp [hdep])).of rfl] at d29
            exact step_run' (wanted_open rfl rfl d29) (v := .pointer (some ⟨gn, 0, none⟩)) (w' := w2) (by go_simp) ⟨EqV.self rfl, hJ⟩
          · have d31 := hD.out 26 31 (by simp [hdep]) rfl
            rw [show vals 26 = .pointer (some ⟨gn, 0, none⟩) from (hV 26 (by simp [hdep])).of rfl] at d31
            have d29 := hD.out 24 29 (by simp [hdep]) rfl
            rw [show vals 24 = .bool true from (hV 24 (by simp [hdep])).of rfl] at d29
            exact step_run' (wanted_open rfl rfl d29) (v := .pointer (some ⟨gn, 2, none⟩)) (w' := w2) (by go_simp) ⟨EqV.self rfl, hJ⟩
          · have d32 := hD.out 27 32 (by simp [hdep]) rfl
            rw [show vals 27 = .pointer (some ⟨gn, 2, none⟩) from (hV 27 (by simp [hdep])).of rfl] at d32
            have d29 := hD.out 24 29 (by simp [hdep]) rfl
            rw [show vals 24 = .bool true from (hV 24 (by simp [hdep])).of rfl] at d29
            exact step_run' (wanted_open rfl rfl d29) (v := .pointer (some ⟨gn, 3, none⟩)) (w' := w2) (by go_simp) ⟨EqV.self rfl, hJ⟩
          · have d33 := hD.out 28 33 (by simp [hdep]) rfl
            rw [show vals 28 = .pointer (some ⟨gn, 3, none⟩) from (hV 28 (by simp [hdep])).of rfl] at d33
            have d29 := hD.out 24 29 (by simp [hdep]) rfl
            rw [show vals 24 = .bool true from (hV 24 (by simp [hdep])).of rfl] at d29
            exact step_run' (wanted_open rfl rfl d29) (v := .pointer pr) (w' := w2) (by go_simp) ⟨EqV.self rfl, hJ⟩
          · have d29 := hD.out 24 29 (by simp [hdep]) rfl
            rw [show vals 24 = .bool true from (hV 24 (by simp [hdep])).of rfl] at d29
            exact step_run' (wanted_open rfl rfl d29) (v := .func (.func g) #[] lb) (w' := w2) (by go_simp) ⟨EqV.self rfl, hJ⟩
          · have d34 := hD.out 29 34 (by simp [hdep]) rfl
            rw [show vals 29 = .pointer pr from (hV 29 (by simp [hdep])).of rfl] at d34
            have d35 := hD.out 30 35 (by simp [hdep]) rfl
            rw [show vals 30 = .func (.func g) #[] lb from (hV 30 (by simp [hdep])).of rfl] at d35
            have d29 := hD.out 24 29 (by simp [hdep]) rfl
            rw [show vals 24 = .bool true from (hV 24 (by simp [hdep])).of rfl] at d29
            have hd22 : L 22 = true := hC.path [24, 23, 22] (by kernel_rfl) 24 rfl (by simp [hdep]) 22 rfl
            refine step_enter' (wanted_open rfl rfl d29) (w' := w2) (by go_simp) ((CR2.out w2 (by simpa [hL, hd22] using hJ)).mono ?_)
            rintro e w1 ⟨rfl, hj1⟩
            exact ⟨_, rfl, EqV.self rfl, by simpa [updL] using hj1⟩
          · have d29 := hD.out 24 29 (by simp [hdep]) rfl
            rw [show vals 24 = .bool true from (hV 24 (by simp [hdep])).of rfl] at d29
            have d36 := hD.out 31 36 (by simp [hdep]) rfl
            rw [show vals 31 = .bool b3 from (hV 31 (by simp [hdep])).of rfl] at d36
            have d7 := hD.out 2 7 (by simp [hdep]) rfl
            rw [show vals 2 = .bool false from (hV 2 (by simp [hdep])).of rfl] at d7
            exact step_run' (wanted_open rfl rfl d7) (v := .bool b3) (w' := w2) (by go_simp) ⟨EqV.self rfl, hJ⟩
          · have d7 := hD.out 2 7 (by simp [hdep]) rfl
            rw [show vals 2 = .bool false from (hV 2 (by simp [hdep])).of rfl] at d7
            have d37 := hD.out 32 37 (by simp [hdep]) rfl
            rw [show vals 32 = .bool b3 from (hV 32 (by simp [hdep])).of rfl] at d37
            exact step_run rfl (v := .bool b3) (w' := w2) (by go_simp) ⟨EqV.self rfl, hJ⟩
          · have d38 := hD.out 33 38 (by simp [hdep]) rfl
            rw [show vals 33 = .bool b3 from (hV 33 (by simp [hdep])).of rfl] at d38
            exact step_run rfl (v := .bool b3) (w' := w2) (by go_simp) ⟨EqV.self rfl, hJ⟩
        · intro vals w2 hJ hV
          have e0 : vals 0 = .pointer (some ⟨gn, 0, none⟩) := (hV 0 (by decide)).of rfl
          have e1 : vals 1 = .bool false := (hV 1 (by decide)).of rfl
          have e2 : vals 2 = .bool false := (hV 2 (by decide)).of rfl
          have e3 : vals 3 = .pointer (some ⟨gn, 0, none⟩) := (hV 3 (by decide)).of rfl
          have e4 : vals 4 = .pointer (some ⟨gn, 0, none⟩) := (hV 4 (by decide)).of rfl
          have e5 : vals 5 = .pointer (some ⟨gn, 2, none⟩) := (hV 5 (by decide)).of rfl
          have e6 : vals 6 = .pointer (some ⟨gn, 2, none⟩) := (hV 6 (by decide)).of rfl
          have e7 : vals 7 = .pointer pl := (hV 7 (by decide)).of rfl
          have e8 : vals 8 = .func (.func g) #[] lb := (hV 8 (by decide)).of rfl
          have e9 : vals 9 = .bool true := (hV 9 (by decide)).of rfl
          have e10 : vals 10 = .bool true := (hV 10 (by decide)).of rfl
          have e11 : vals 11 = .func (.func g) #[] lb := (hV 11 (by decide)).of rfl
          have e12 : vals 12 = .pointer (some ⟨gn, 0, none⟩) := (hV 12 (by decide)).of rfl
          have e13 : vals 13 = .pointer (some ⟨gn, 0, none⟩) := (hV 13 (by decide)).of rfl
          have e14 : vals 14 = .pointer (some ⟨gn, 0, none⟩) := (hV 14 (by decide)).of rfl
          have e15 : vals 15 = .pointer (some ⟨gn, 0, none⟩) := (hV 15 (by decide)).of rfl
          have e16 : vals 16 = .int .i64 k := (hV 16 (by decide)).of rfl
          have e17 : vals 17 = .pointer (some ⟨gn, 0, none⟩) := (hV 17 (by decide)).of rfl
          have e18 : vals 18 = .pointer (some ⟨gn, 0, none⟩) := (hV 18 (by decide)).of rfl
          have e19 : vals 19 = .pointer (some ⟨gn, 0, none⟩) := (hV 19 (by decide)).of rfl
          have e20 : vals 20 = .pointer (some ⟨gn, 1, none⟩) := (hV 20 (by decide)).of rfl
          have e21 : vals 21 = .string v := (hV 21 (by decide)).of rfl
          have e22 : vals 22 = .bool true := (hV 22 (by decide)).of rfl
          have e23 : vals 23 = .bool true := (hV 23 (by decide)).of rfl
          have e24 : vals 24 = .bool true := (hV 24 (by decide)).of rfl
          have e25 : vals 25 = .pointer (some ⟨gn, 0, none⟩) := (hV 25 (by decide)).of rfl
          have e26 : vals 26 = .pointer (some ⟨gn, 0, none⟩) := (hV 26 (by decide)).of rfl
          have e27 : vals 27 = .pointer (some ⟨gn, 2, none⟩) := (hV 27 (by decide)).of rfl
          have e28 : vals 28 = .pointer (some ⟨gn, 3, none⟩) := (hV 28 (by decide)).of rfl
          have e29 : vals 29 = .pointer pr := (hV 29 (by decide)).of rfl
          have e30 : vals 30 = .func (.func g) #[] lb := (hV 30 (by decide)).of rfl
          have e31 : vals 31 = .bool b3 := (hV 31 (by decide)).of rfl
          have e32 : vals 32 = .bool b3 := (hV 32 (by decide)).of rfl
          have e33 : vals 33 = .bool b3 := (hV 33 (by decide)).of rfl
          have e34 : vals 34 = .bool b3 := (hV 34 (by decide)).of rfl
          simp only [putsL, Act.put, List.setIfInBounds_toArray, List.set_cons_zero, List.set_cons_succ, e0, e1, e2, e3, e4, e5, e6, e7, e8, e9, e10, e11, e12, e13, e14, e15, e16, e17, e18, e19, e20, e21, e22, e23, e24, e25, e26, e27, e28, e29, e30, e31, e32, e33, e34]
          clear e0 e1 e2 e3 e4 e5 e6 e7 e8 e9 e10 e11 e12 e13 e14 e15 e16 e17 e18 e19 e20 e21 e22 e23 e24 e25 e26 e27 e28 e29 e30 e31 e32 e33 e34
          have HJ2 := Lib.hid hJ
          clear hJ hV
          go_wp2_with fail
          go_ret
          exact ⟨rfl, HJ2.out⟩
end Go.Proofs.Ytaghflionakhhaa
