/-
  Layer grove, at int, string: Walk.
-/
import Derived.Test.YtaghflionakhhaaGvPutIs
import Derived.Test.YtaghflionakhhaaGvWalkIs
namespace Go.Proofs.Ytaghflionakhhaa
open Go.RowKit Go.Gz

set_option maxHeartbeats 4000000 in
set_option maxRecDepth 100000 in
theorem walk1_anyIs {σ : Type} {f : σ → Int → ByteArray → σ × Bool} {g : FuncId} {lb : Array Value} {A : σ → Int × ByteArray → Prop} {S : Nat → Prop} {w0 : World} {J : σ → World → Prop} (hS : SeesIs f g lb A S w0 J)
    {F : FuncId} {c : Int → Int → Int} {P : Int → Prop} (hO : OrdIs F c P) (gb : Nat) (hG : OrdIn F gb J) (fk : Int) (hfk : P fk) (t : GT Int ByteArray) (p : Option Addr) (ht : TrIs S w0 p t) (hq : ∀ q ∈ t.list, P q.1)
    (s : σ) (ha : RunOk f A s (fromT c fk t)) (w : World) (n : Nat) (hj : J s w) (hz : n + 2 < w.heap.size) (hgl : gb < w.heap.size) (c0 : w.cell? ⟨n, 0, none⟩ = some (.pointer (some ⟨gb, 0, none⟩))) (c1 : w.cell? ⟨n + 1, 0, none⟩ = some (.int .i64 fk)) (c2 : w.cell? ⟨n + 2, 0, none⟩ = some (.func (.func g) #[] lb))
    (cg : w.cell? ⟨gb, 1, none⟩ = some (.pointer p)) :
    Calls Try.prog 76 #[.pointer (some ⟨n, 0, none⟩), .pointer (some ⟨n + 1, 0, none⟩), .pointer (some ⟨n + 2, 0, none⟩)] w fun e w' => e = .returned (.tuple #[]) ∧ J (runS f s (fromT c fk t)).1 w' := by
  have mx := mixedS
  have HC := Lib.hid (fun w hj => walk_anyIs hS hO gb hG fk hfk t p s w hj ht ha hq)
  have HB := Lib.hid hS.hb
  have H0 := Lib.hid c0
  have H1 := Lib.hid c1
  have H2 := Lib.hid c2
  have H3 := Lib.hid cg
  have HJ := Lib.hid hj
  have HZ := Lib.hid hz
  have HGL := Lib.hid hgl
  obtain ⟨rr, hrr⟩ : ∃ rr, runS f s (fromT c fk t) = rr := ⟨_, rfl⟩
  unfold SawIs at HC
  rw [hrr] at HC ⊢
  obtain ⟨sf, b⟩ := rr
  clear hS hO hG hfk ht ha hq hj hz hgl c0 c1 c2 cg hrr
  go_enter Try.func76, Try.ntmps76
  go_wp2_with fail
  refine wp_region_state mx (by kernel_rfl) [some (.pointer (some ⟨gb, 0, none⟩)), some (.pointer (some ⟨gb, 0, none⟩)), some (.pointer p), some (.int .i64 fk), some (.func (.func g) #[] lb), some (.bool b)] (fun L x => (L 5 = false → Below w.heap.size w x) ∧ (L 5 = true → J sf x)) (⟨fun _ => (Below.refl _ _).drew, fun h => by cases h⟩) ?_ ?_
  · intro i o L vals w2 hi hL hdep hC hJ hV
    have hlt : i < 6 := by have := (List.getElem?_eq_some_iff.1 hi).1; simpa using this
    generalize hA : frA _ _ L vals = a'
    have hT0 : a'.tmps.getD 0 undef = .pointer (some ⟨n, 0, none⟩) := by rw [← hA, frA_base (by kernel_rfl)]; rfl
    have hT1 : a'.tmps.getD 1 undef = .pointer (some ⟨(n + 1), 0, none⟩) := by rw [← hA, frA_base (by kernel_rfl)]; rfl
    have hT2 : a'.tmps.getD 2 undef = .pointer (some ⟨(n + 2), 0, none⟩) := by rw [← hA, frA_base (by kernel_rfl)]; rfl
    have hD := Lib.hid (fun k t (hk : L k = true) (ht : dstOf _ k = some t) => hA ▸ frA_done (by kernel_rfl) (vals := vals) hk ht)
    clear hA
    obtain rfl | rfl | rfl | rfl | rfl | rfl : i = 0 ∨ i = 1 ∨ i = 2 ∨ i = 3 ∨ i = 4 ∨ i = 5 := by omega
    all_goals
      injection hi with hi
      subst hi
      try simp [Region.binds] at hdep
    · have hno : L 5 = false := by
        cases h : L 5 with
        | false => rfl
        | true => exact absurd (hC.path [5, 0] (by kernel_rfl) 5 rfl h 0 rfl) (by simp [hL])
      have hbw := hJ.1 hno
      have c0 : w2.cell? ⟨n, 0, none⟩ = some (.pointer (some ⟨gb, 0, none⟩)) := by rw [hbw.cell (p := ⟨n, 0, none⟩) (by have := HZ.out; show n < _; omega)]; exact H0.out
      exact step_run rfl (v := .pointer (some ⟨gb, 0, none⟩)) (w' := w2) (by go_simp) ⟨EqV.self rfl, hJ⟩
    · have hno : L 5 = false := by
        cases h : L 5 with
        | false => rfl
        | true => exact absurd (hC.path [5, 2, 1] (by kernel_rfl) 5 rfl h 1 rfl) (by simp [hL])
      have hbw := hJ.1 hno
      have c0 : w2.cell? ⟨n, 0, none⟩ = some (.pointer (some ⟨gb, 0, none⟩)) := by rw [hbw.cell (p := ⟨n, 0, none⟩) (by have := HZ.out; show n < _; omega)]; exact H0.out
      exact step_run rfl (v := .pointer (some ⟨gb, 0, none⟩)) (w' := w2) (by go_simp) ⟨EqV.self rfl, hJ⟩
    · have d4 := hD.out 1 4 (by simp [hdep]) rfl
      rw [show vals 1 = .pointer (some ⟨gb, 0, none⟩) from (hV 1 (by simp [hdep])).of rfl] at d4
      have hno : L 5 = false := by
        cases h : L 5 with
        | false => rfl
        | true => exact absurd (hC.path [5, 2] (by kernel_rfl) 5 rfl h 2 rfl) (by simp [hL])
      have hbw := hJ.1 hno
      refine step_enter rfl (w' := w2) (by go_simp) ((top_anyIs gb p w2 (by rw [hbw.cell (p := ⟨gb, 1, none⟩) HGL.out]; exact H3.out)).mono ?_)
      rintro e w1 ⟨rfl, rfl⟩
      exact ⟨_, rfl, EqV.self rfl, hJ⟩
    · have hno : L 5 = false := by
        cases h : L 5 with
        | false => rfl
        | true => exact absurd (hC.path [5, 3] (by kernel_rfl) 5 rfl h 3 rfl) (by simp [hL])
      have hbw := hJ.1 hno
      have c0 : w2.cell? ⟨n + 1, 0, none⟩ = some (.int .i64 fk) := by rw [hbw.cell (p := ⟨n + 1, 0, none⟩) (by have := HZ.out; show n + 1 < _; omega)]; exact H1.out
      exact step_run rfl (v := .int .i64 fk) (w' := w2) (by go_simp) ⟨EqV.self rfl, hJ⟩
    · have hno : L 5 = false := by
        cases h : L 5 with
        | false => rfl
        | true => exact absurd (hC.path [5, 4] (by kernel_rfl) 5 rfl h 4 rfl) (by simp [hL])
      have hbw := hJ.1 hno
      have c0 : w2.cell? ⟨n + 2, 0, none⟩ = some (.func (.func g) #[] lb) := by rw [hbw.cell (p := ⟨n + 2, 0, none⟩) (by have := HZ.out; show n + 2 < _; omega)]; exact H2.out
      exact step_run rfl (v := .func (.func g) #[] lb) (w' := w2) (by go_simp) ⟨EqV.self rfl, hJ⟩
    · have d3 := hD.out 0 3 (by simp [hdep]) rfl
      rw [show vals 0 = .pointer (some ⟨gb, 0, none⟩) from (hV 0 (by simp [hdep])).of rfl] at d3
      have d5 := hD.out 2 5 (by simp [hdep]) rfl
      rw [show vals 2 = .pointer p from (hV 2 (by simp [hdep])).of rfl] at d5
      have d6 := hD.out 3 6 (by simp [hdep]) rfl
      rw [show vals 3 = .int .i64 fk from (hV 3 (by simp [hdep])).of rfl] at d6
      have d7 := hD.out 4 7 (by simp [hdep]) rfl
      rw [show vals 4 = .func (.func g) #[] lb from (hV 4 (by simp [hdep])).of rfl] at d7
      have hj2 := HB.out _ _ _ HJ.out (hJ.1 hL)
      refine step_enter rfl (w' := w2) (by go_simp) ((HC.out w2 hj2).mono ?_)
      rintro e w1 ⟨rfl, hj1⟩
      exact ⟨_, rfl, EqV.self rfl, fun h => (by cases h), fun _ => hj1⟩
  · intro vals w2 hJ hV
    have e0 : vals 0 = .pointer (some ⟨gb, 0, none⟩) := (hV 0 (by decide)).of rfl
    have e1 : vals 1 = .pointer (some ⟨gb, 0, none⟩) := (hV 1 (by decide)).of rfl
    have e2 : vals 2 = .pointer p := (hV 2 (by decide)).of rfl
    have e3 : vals 3 = .int .i64 fk := (hV 3 (by decide)).of rfl
    have e4 : vals 4 = .func (.func g) #[] lb := (hV 4 (by decide)).of rfl
    have e5 : vals 5 = .bool b := (hV 5 (by decide)).of rfl
    simp only [putsL, Act.put, List.setIfInBounds_toArray, List.set_cons_zero, List.set_cons_succ, e0, e1, e2, e3, e4, e5]
    clear e0 e1 e2 e3 e4 e5
    have HJ2 := Lib.hid (hJ.2 rfl)
    clear hJ hV
    go_wp2_with fail
    exact bodyPost_end (v := .tuple #[]) (by simp [results, Try.results76]) rfl ⟨rfl, HJ2.out⟩

set_option maxHeartbeats 1000000 in
set_option maxRecDepth 100000 in
theorem gwalk_anyIs {σ : Type} {f : σ → Int → ByteArray → σ × Bool} {g : FuncId} {lb : Array Value} {A : σ → Int × ByteArray → Prop} {S : Nat → Prop} {w0 : World} {J : σ → World → Prop} (hS : SeesIs f g lb A S w0 J)
    {F : FuncId} {c : Int → Int → Int} {P : Int → Prop} (hO : OrdIs F c P) (gb : Nat) (hG : OrdIn F gb J) (fk : Int) (hfk : P fk) (t : GT Int ByteArray) (p : Option Addr) (ht : TrIs S w0 p t) (hq : ∀ q ∈ t.list, P q.1)
    (s : σ) (ha : RunOk f A s (fromT c fk t)) (w : World) (hj : J s w) (hgl : gb < w.heap.size) (cg : w.cell? ⟨gb, 1, none⟩ = some (.pointer p)) :
    Calls Try.prog 38 #[.pointer (some ⟨gb, 0, none⟩), .int .i64 fk, .func (.func g) #[] lb] w fun e w' => e = .returned (.tuple #[]) ∧ J (runS f s (fromT c fk t)).1 w' := by
  have hmf : ∀ (fn : Fn) (first cap : Array Value) (w : World), (Instr.makeFunc fn first cap).run Try.prog w = .ok (.func fn first cap) w := fun _ _ _ _ => rfl
  have hfn : ∀ w : World, (binOp .neq 53 (.func (.func g) #[] lb) .nilFunc).run Try.prog w = .ok (.bool true) w := fun _ => by kernel_rfl
  obtain ⟨w1, hw1⟩ : ∃ w1, ((w.alloc (.cells #[.pointer (some ⟨gb, 0, none⟩)] 51)).alloc (.cells #[.int .i64 fk] 3)).alloc (.cells #[.func (.func g) #[] lb] 53) = w1 := ⟨_, rfl⟩
  have hb1 : Below w.heap.size w w1 := hw1 ▸ (((Below.refl _ _).alloc (Nat.le_refl _) _).alloc (by simp) _).alloc (by simp; omega) _
  have z1 : w1.heap.size = w.heap.size + 3 := by rw [← hw1]; simp
  have a0 : w1.cell? ⟨w.heap.size, 0, none⟩ = some (.pointer (some ⟨gb, 0, none⟩)) := by rw [← hw1]; simp [go_sem]
  have a1 : w1.cell? ⟨w.heap.size + 1, 0, none⟩ = some (.int .i64 fk) := by rw [← hw1]; simp [go_sem]
  have a2 : w1.cell? ⟨w.heap.size + 1 + 1, 0, none⟩ = some (.func (.func g) #[] lb) := by rw [← hw1]; simp [go_sem]
  have C1 := Lib.hid (walk1_anyIs hS hO gb hG fk hfk t p ht hq s ha w1 w.heap.size (hS.hb _ _ _ hj hb1) (by omega) (by omega) a0 a1 a2 (by rw [hb1.cell (p := ⟨gb, 1, none⟩) hgl]; exact cg))
  have CC := Lib.hid (calm_any 76 #[.pointer (some ⟨w.heap.size, 0, none⟩), .pointer (some ⟨w.heap.size + 1, 0, none⟩), .pointer (some ⟨w.heap.size + 1 + 1, 0, none⟩)] (fun _ _ => rfl) w1 _ C1.out)
  clear hS hO hG hfk ht ha hq hj cg hb1 z1 a0 a1 C1
  go_enter Try.func38, Try.ntmps38
  go_wp2_with fail
  refine CC.out.mono ?_
  rintro e w4 ⟨rfl, hj4⟩
  have HJ4 := Lib.hid hj4
  clear hj4
  go_wp2_with fail
  exact bodyPost_end (v := .tuple #[]) (by simp [results, Try.results38]) rfl ⟨rfl, HJ4.out⟩
end Go.Proofs.Ytaghflionakhhaa
