/-
  Layer grove, at int, string: what is not less than a key shown to a function.
-/
import Derived.Test.YtaghflionakhhaaGvAllIs
import Derived.Test.YtaghflionakhhaaGvWithIs
import Derived.Test.YtaghflionakhhaaGvMore
namespace Go.Proofs.Ytaghflionakhhaa
open Go.RowKit Go.Gz

set_option maxHeartbeats 4000000 in
set_option maxRecDepth 100000 in
theorem walk_anyIs {σ : Type} {f : σ → Int → ByteArray → σ × Bool} {g : FuncId} {lb : Array Value} {A : σ → Int × ByteArray → Prop} {S : Nat → Prop} {w0 : World} {J : σ → World → Prop} (hS : SeesIs f g lb A S w0 J)
    {F : FuncId} {c : Int → Int → Int} {P : Int → Prop} (hO : OrdIs F c P) (gb : Nat) (hG : OrdIn F gb J) (fk : Int) (hfk : P fk) (t : GT Int ByteArray) :
    ∀ (p : Option Addr) (s : σ) (w : World), J s w → TrIs S w0 p t → RunOk f A s (fromT c fk t) → (∀ q ∈ t.list, P q.1) → Calls Try.prog 77 #[.pointer (some ⟨gb, 0, none⟩), .pointer p, .int .i64 fk, .func (.func g) #[] lb] w (SawIs f J s (fromT c fk t)) := by
  have mx := mixedS
  have eg := hS.eg
  have eF := hO.eg
  have HS := Lib.hid hS
  have HO := Lib.hid hO
  have HG := Lib.hid hG
  clear hS hO hG
  induction t with
  | nil =>
    intro p s w hj ht ha hq
    obtain rfl : p = none := ht
    have HJ := Lib.hid hj
    clear ha hq hj
    go_enter Try.func77, Try.ntmps77
    go_wp2_with fail
    go_ret
    exact ⟨rfl, HJ.out⟩
  | node k v l r ihl ihr =>
    intro p s w hj ht ha hq
    obtain ⟨gn, pl, pr, rfl, hn⟩ := TrS.node ht
    have HN := Lib.hid hn
    have HJ := Lib.hid hj
    have CL := Lib.hid (fun w hj ha => ihl pl s w hj hn.hl ha (fun q hq' => hq q (by simp only [GT.list, List.mem_append, List.mem_cons]; exact .inl hq')))
    have CR := Lib.hid (fun w hj ha => ihr pr s w hj hn.hr ha (fun q hq' => hq q (by simp only [GT.list, List.mem_append, List.mem_cons]; exact .inr (.inr hq'))))
    have CA := Lib.hid (fun s w hj ha => all_anyIs HS.out r pr s w hj hn.hr ha)
    have CS := Lib.hid (fun s w hj ha => HS.out.hs s k v w hj ha)
    have HA := Lib.hid ha
    have CC := Lib.hid (fun w => HO.out.hF k fk w (hq (k, v) (by simp [GT.list])) hfk)
    obtain ⟨d, hd⟩ : ∃ d, c k fk = d := ⟨_, rfl⟩
    rw [hd] at CC
    have HW := Lib.hid (show fromT c fk (.node k v l r) = if d < 0 then fromT c fk r else fromT c fk l ++ (k, v) :: r.list by rw [← hd]; rfl)
    obtain ⟨hgl, hg0⟩ := HG.out _ _ hj
    have HGL := Lib.hid hgl
    have HG0 := Lib.hid hg0
    have HNW := Lib.hid (hn.keep (HS.out.hz _ _ hj) (HS.out.hk _ _ hj))
    rw [HW.out] at HA
    clear ihl ihr ha hq hn hj ht hd hgl hg0
    unfold SawIs at CL CR CA ⊢
    rw [HW.out]
    by_cases h0 : d < 0
    · rw [if_pos h0] at HA ⊢
      have hdd : decide (d < 0) = true := by simp [h0]
      go_enter Try.func77, Try.ntmps77
      go_wp2_with fail
      clear hdd
      refine wp_region_mono mx (by kernel_rfl) [VP.eq (.pointer (some ⟨gb, 0, none⟩)), VP.eq (.pointer (some ⟨gb, 0, none⟩)), VP.eq (.pointer (some ⟨gb, 0, none⟩)), VP.eq (.func (.func F) #[] #[]), VP.eq (.pointer (some ⟨gn, 0, none⟩)), VP.eq (.pointer (some ⟨gn, 0, none⟩)), VP.eq (.pointer (some ⟨gn, 0, none⟩)), VP.eq (.pointer (some ⟨gn, 0, none⟩)), VP.eq (.int .i64 k), VP.eq (.int .i64 fk), VP.eq (.int .i64 d), VP.eq (.bool true)] ?_ ?_
      · intro i o L vals w2 hi hL hdep hC hJ hV
        have hlt : i < 12 := by have := (List.getElem?_eq_some_iff.1 hi).1; simpa using this
        generalize hA : frA _ _ L vals = a'
        have hT0 : a'.tmps.getD 0 undef = .pointer (some ⟨gb, 0, none⟩) := by rw [← hA, frA_base (by kernel_rfl)]; rfl
        have hT1 : a'.tmps.getD 1 undef = .pointer (some ⟨gn, 0, none⟩) := by rw [← hA, frA_base (by kernel_rfl)]; rfl
        have hT2 : a'.tmps.getD 2 undef = .int .i64 fk := by rw [← hA, frA_base (by kernel_rfl)]; rfl
        have hD := Lib.hid (fun k t (hk : L k = true) (ht : dstOf _ k = some t) => hA ▸ frA_done (by kernel_rfl) (vals := vals) hk ht)
        clear hA
        have n0 := (HNW.out.below hJ).c0
        have g0 : w2.cell? ⟨gb, 0, none⟩ = some (.func (.func F) #[] #[]) := by rw [hJ.cell (p := ⟨gb, 0, none⟩) HGL.out]; exact HG0.out
        obtain rfl | rfl | rfl | rfl | rfl | rfl | rfl | rfl | rfl | rfl | rfl | rfl : i = 0 ∨ i = 1 ∨ i = 2 ∨ i = 3 ∨ i = 4 ∨ i = 5 ∨ i = 6 ∨ i = 7 ∨ i = 8 ∨ i = 9 ∨ i = 10 ∨ i = 11 := by omega
        all_goals
          injection hi with hi
          subst hi
          try simp [Region.binds] at hdep
        · exact step_run rfl (v := .pointer (some ⟨gb, 0, none⟩)) (w' := w2) (by go_simp) ⟨rfl, Below.refl _ _⟩
        · have d11 := hD.out 0 11 (by simp [hdep]) rfl
          rw [show vals 0 = .pointer (some ⟨gb, 0, none⟩) from hV 0 (by simp [hdep])] at d11
          exact step_run rfl (v := .pointer (some ⟨gb, 0, none⟩)) (w' := w2) (by go_simp) ⟨rfl, Below.refl _ _⟩
        · have d12 := hD.out 1 12 (by simp [hdep]) rfl
          rw [show vals 1 = .pointer (some ⟨gb, 0, none⟩) from hV 1 (by simp [hdep])] at d12
          exact step_run rfl (v := .pointer (some ⟨gb, 0, none⟩)) (w' := w2) (by go_simp) ⟨rfl, Below.refl _ _⟩
        · have d13 := hD.out 2 13 (by simp [hdep]) rfl
          rw [show vals 2 = .pointer (some ⟨gb, 0, none⟩) from hV 2 (by simp [hdep])] at d13
          exact step_run rfl (v := .func (.func F) #[] #[]) (w' := w2) (by go_simp) ⟨rfl, Below.refl _ _⟩
        · exact step_run rfl (v := .pointer (some ⟨gn, 0, none⟩)) (w' := w2) (by go_simp) ⟨rfl, Below.refl _ _⟩
        · have d15 := hD.out 4 15 (by simp [hdep]) rfl
          rw [show vals 4 = .pointer (some ⟨gn, 0, none⟩) from hV 4 (by simp [hdep])] at d15
          exact step_run rfl (v := .pointer (some ⟨gn, 0, none⟩)) (w' := w2) (by go_simp) ⟨rfl, Below.refl _ _⟩
        · have d16 := hD.out 5 16 (by simp [hdep]) rfl
          rw [show vals 5 = .pointer (some ⟨gn, 0, none⟩) from hV 5 (by simp [hdep])] at d16
          exact step_run rfl (v := .pointer (some ⟨gn, 0, none⟩)) (w' := w2) (by go_simp) ⟨rfl, Below.refl _ _⟩
        · have d17 := hD.out 6 17 (by simp [hdep]) rfl
          rw [show vals 6 = .pointer (some ⟨gn, 0, none⟩) from hV 6 (by simp [hdep])] at d17
          exact step_run rfl (v := .pointer (some ⟨gn, 0, none⟩)) (w' := w2) (by go_simp) ⟨rfl, Below.refl _ _⟩
        · have d18 := hD.out 7 18 (by simp [hdep]) rfl
          rw [show vals 7 = .pointer (some ⟨gn, 0, none⟩) from hV 7 (by simp [hdep])] at d18
          exact step_run rfl (v := .int .i64 k) (w' := w2) (by go_simp) ⟨rfl, Below.refl _ _⟩
        · exact step_run rfl (v := .int .i64 fk) (w' := w2) (by go_simp) ⟨rfl, Below.refl _ _⟩
        · have d14 := hD.out 3 14 (by simp [hdep]) rfl
          rw [show vals 3 = .func (.func F) #[] #[] from hV 3 (by simp [hdep])] at d14
          have d19 := hD.out 8 19 (by simp [hdep]) rfl
          rw [show vals 8 = .int .i64 k from hV 8 (by simp [hdep])] at d19
          have d20 := hD.out 9 20 (by simp [hdep]) rfl
          rw [show vals 9 = .int .i64 fk from hV 9 (by simp [hdep])] at d20
          refine step_enter rfl (w' := w2) (by go_simp) ((CC.out w2).mono ?_)
          rintro e w1 ⟨rfl, rfl⟩
          exact ⟨_, rfl, rfl, Below.refl _ _⟩
        · have d21 := hD.out 10 21 (by simp [hdep]) rfl
          rw [show vals 10 = .int .i64 d from hV 10 (by simp [hdep])] at d21
          exact step_run rfl (v := .bool true) (w' := w2) (by go_simp; skip) ⟨rfl, Below.refl _ _⟩
      · intro vals w2 hJ hV
        have e0 : vals 0 = .pointer (some ⟨gb, 0, none⟩) := hV 0 (by decide)
        have e1 : vals 1 = .pointer (some ⟨gb, 0, none⟩) := hV 1 (by decide)
        have e2 : vals 2 = .pointer (some ⟨gb, 0, none⟩) := hV 2 (by decide)
        have e3 : vals 3 = .func (.func F) #[] #[] := hV 3 (by decide)
        have e4 : vals 4 = .pointer (some ⟨gn, 0, none⟩) := hV 4 (by decide)
        have e5 : vals 5 = .pointer (some ⟨gn, 0, none⟩) := hV 5 (by decide)
        have e6 : vals 6 = .pointer (some ⟨gn, 0, none⟩) := hV 6 (by decide)
        have e7 : vals 7 = .pointer (some ⟨gn, 0, none⟩) := hV 7 (by decide)
        have e8 : vals 8 = .int .i64 k := hV 8 (by decide)
        have e9 : vals 9 = .int .i64 fk := hV 9 (by decide)
        have e10 : vals 10 = .int .i64 d := hV 10 (by decide)
        have e11 : vals 11 = .bool true := hV 11 (by decide)
        simp only [putsL, Act.put, List.setIfInBounds_toArray, List.set_cons_zero, List.set_cons_succ, e0, e1, e2, e3, e4, e5, e6, e7, e8, e9, e10, e11]
        clear e0 e1 e2 e3 e4 e5 e6 e7 e8 e9 e10 e11
        have HJ2 := Lib.hid (HS.out.hb _ _ _ HJ.out hJ)
        have HN2 := Lib.hid (HNW.out.below hJ)
        clear hJ hV HGL HG0 HNW HJ
        have n3 := HN2.out.c3
        go_wp2_with fail
        refine (CR.out w2 HJ2.out HA.out).mono ?_
        rintro e w3 ⟨rfl, hj3⟩
        have HJ3 := Lib.hid hj3
        clear hj3
        go_wp2_with fail
        go_ret
        exact ⟨rfl, HJ3.out⟩
    · rw [if_neg h0] at HA ⊢
      obtain ⟨ha1, ha2⟩ := runOk_append HA.out
      have CL := Lib.hid (fun w hj => CL.out w hj ha1)
      have HA := Lib.hid ha2
      clear ha1 ha2
      have HR := Lib.hid (runS_append f s (fromT c fk l) ((k, v) :: r.list))
      rw [HR.out]
      obtain ⟨r1, hr1⟩ : ∃ r1, runS f s (fromT c fk l) = r1 := ⟨_, rfl⟩
      rw [hr1] at CL HA ⊢
      clear hr1 HR CR
      obtain ⟨s1, b1⟩ := r1
      simp only [runS] at CL ⊢
      cases b1 with
      | false =>
        simp only [Bool.false_eq_true, if_false]
        have hdd : decide (d < 0) = false := by simp; omega
        go_enter Try.func77, Try.ntmps77
        go_wp2_with fail
        clear hdd
        refine wp_region_mono mx (by kernel_rfl) [VP.eq (.pointer (some ⟨gb, 0, none⟩)), VP.eq (.pointer (some ⟨gb, 0, none⟩)), VP.eq (.pointer (some ⟨gb, 0, none⟩)), VP.eq (.func (.func F) #[] #[]), VP.eq (.pointer (some ⟨gn, 0, none⟩)), VP.eq (.pointer (some ⟨gn, 0, none⟩)), VP.eq (.pointer (some ⟨gn, 0, none⟩)), VP.eq (.pointer (some ⟨gn, 0, none⟩)), VP.eq (.int .i64 k), VP.eq (.int .i64 fk), VP.eq (.int .i64 d), VP.eq (.bool false)] ?_ ?_
        · intro i o L vals w2 hi hL hdep hC hJ hV
          have hlt : i < 12 := by have := (List.getElem?_eq_some_iff.1 hi).1; simpa using this
          generalize hA : frA _ _ L vals = a'
          have hT0 : a'.tmps.getD 0 undef = .pointer (some ⟨gb, 0, none⟩) := by rw [← hA, frA_base (by kernel_rfl)]; rfl
          have hT1 : a'.tmps.getD 1 undef = .pointer (some ⟨gn, 0, none⟩) := by rw [← hA, frA_base (by kernel_rfl)]; rfl
          have hT2 : a'.tmps.getD 2 undef = .int .i64 fk := by rw [← hA, frA_base (by kernel_rfl)]; rfl
          have hD := Lib.hid (fun k t (hk : L k = true) (ht : dstOf _ k = some t) => hA ▸ frA_done (by kernel_rfl) (vals := vals) hk ht)
          clear hA
          have n0 := (HNW.out.below hJ).c0
          have g0 : w2.cell? ⟨gb, 0, none⟩ = some (.func (.func F) #[] #[]) := by rw [hJ.cell (p := ⟨gb, 0, none⟩) HGL.out]; exact HG0.out
          obtain rfl | rfl | rfl | rfl | rfl | rfl | rfl | rfl | rfl | rfl | rfl | rfl : i = 0 ∨ i = 1 ∨ i = 2 ∨ i = 3 ∨ i = 4 ∨ i = 5 ∨ i = 6 ∨ i = 7 ∨ i = 8 ∨ i = 9 ∨ i = 10 ∨ i = 11 := by omega
          all_goals
            injection hi with hi
            subst hi
            try simp [Region.binds] at hdep
          · exact step_run rfl (v := .pointer (some ⟨gb, 0, none⟩)) (w' := w2) (by go_simp) ⟨rfl, Below.refl _ _⟩
          · have d11 := hD.out 0 11 (by simp [hdep]) rfl
            rw [show vals 0 = .pointer (some ⟨gb, 0, none⟩) from hV 0 (by simp [hdep])] at d11
            exact step_run rfl (v := .pointer (some ⟨gb, 0, none⟩)) (w' := w2) (by go_simp) ⟨rfl, Below.refl _ _⟩
          · have d12 := hD.out 1 12 (by simp [hdep]) rfl
            rw [show vals 1 = .pointer (some ⟨gb, 0, none⟩) from hV 1 (by simp [hdep])] at d12
            exact step_run rfl (v := .pointer (some ⟨gb, 0, none⟩)) (w' := w2) (by go_simp) ⟨rfl, Below.refl _ _⟩
          · have d13 := hD.out 2 13 (by simp [hdep]) rfl
            rw [show vals 2 = .pointer (some ⟨gb, 0, none⟩) from hV 2 (by simp [hdep])] at d13
            exact step_run rfl (v := .func (.func F) #[] #[]) (w' := w2) (by go_simp) ⟨rfl, Below.refl _ _⟩
          · exact step_run rfl (v := .pointer (some ⟨gn, 0, none⟩)) (w' := w2) (by go_simp) ⟨rfl, Below.refl _ _⟩
          · have d15 := hD.out 4 15 (by simp [hdep]) rfl
            rw [show vals 4 = .pointer (some ⟨gn, 0, none⟩) from hV 4 (by simp [hdep])] at d15
            exact step_run rfl (v := .pointer (some ⟨gn, 0, none⟩)) (w' := w2) (by go_simp) ⟨rfl, Below.refl _ _⟩
          · have d16 := hD.out 5 16 (by simp [hdep]) rfl
            rw [show vals 5 = .pointer (some ⟨gn, 0, none⟩) from hV 5 (by simp [hdep])] at d16
            exact step_run rfl (v := .pointer (some ⟨gn, 0, none⟩)) (w' := w2) (by go_simp) ⟨rfl, Below.refl _ _⟩
          · have d17 := hD.out 6 17 (by simp [hdep]) rfl
            rw [show vals 6 = .pointer (some ⟨gn, 0, none⟩) from hV 6 (by simp [hdep])] at d17
            exact step_run rfl (v := .pointer (some ⟨gn, 0, none⟩)) (w' := w2) (by go_simp) ⟨rfl, Below.refl _ _⟩
          · have d18 := hD.out 7 18 (by simp [hdep]) rfl
            rw [show vals 7 = .pointer (some ⟨gn, 0, none⟩) from hV 7 (by simp [hdep])] at d18
            exact step_run rfl (v := .int .i64 k) (w' := w2) (by go_simp) ⟨rfl, Below.refl _ _⟩
          · exact step_run rfl (v := .int .i64 fk) (w' := w2) (by go_simp) ⟨rfl, Below.refl _ _⟩
          · have d14 := hD.out 3 14 (by simp [hdep]) rfl
            rw [show vals 3 = .func (.func F) #[] #[] from hV 3 (by simp [hdep])] at d14
            have d19 := hD.out 8 19 (by simp [hdep]) rfl
            rw [show vals 8 = .int .i64 k from hV 8 (by simp [hdep])] at d19
            have d20 := hD.out 9 20 (by simp [hdep]) rfl
            rw [show vals 9 = .int .i64 fk from hV 9 (by simp [hdep])] at d20
            refine step_enter rfl (w' := w2) (by go_simp) ((CC.out w2).mono ?_)
            rintro e w1 ⟨rfl, rfl⟩
            exact ⟨_, rfl, rfl, Below.refl _ _⟩
          · have d21 := hD.out 10 21 (by simp [hdep]) rfl
            rw [show vals 10 = .int .i64 d from hV 10 (by simp [hdep])] at d21
            exact step_run rfl (v := .bool false) (w' := w2) (by go_simp; skip) ⟨rfl, Below.refl _ _⟩
        · intro vals w2 hJ hV
          have e0 : vals 0 = .pointer (some ⟨gb, 0, none⟩) := hV 0 (by decide)
          have e1 : vals 1 = .pointer (some ⟨gb, 0, none⟩) := hV 1 (by decide)
          have e2 : vals 2 = .pointer (some ⟨gb, 0, none⟩) := hV 2 (by decide)
          have e3 : vals 3 = .func (.func F) #[] #[] := hV 3 (by decide)
          have e4 : vals 4 = .pointer (some ⟨gn, 0, none⟩) := hV 4 (by decide)
          have e5 : vals 5 = .pointer (some ⟨gn, 0, none⟩) := hV 5 (by decide)
          have e6 : vals 6 = .pointer (some ⟨gn, 0, none⟩) := hV 6 (by decide)
          have e7 : vals 7 = .pointer (some ⟨gn, 0, none⟩) := hV 7 (by decide)
          have e8 : vals 8 = .int .i64 k := hV 8 (by decide)
          have e9 : vals 9 = .int .i64 fk := hV 9 (by decide)
          have e10 : vals 10 = .int .i64 d := hV 10 (by decide)
          have e11 : vals 11 = .bool false := hV 11 (by decide)
          simp only [putsL, Act.put, List.setIfInBounds_toArray, List.set_cons_zero, List.set_cons_succ, e0, e1, e2, e3, e4, e5, e6, e7, e8, e9, e10, e11]
          clear e0 e1 e2 e3 e4 e5 e6 e7 e8 e9 e10 e11
          have HJ2 := Lib.hid (HS.out.hb _ _ _ HJ.out hJ)
          have HN2 := Lib.hid (HNW.out.below hJ)
          clear hJ hV HGL HG0 HNW HJ
          go_wp2_with fail
          refine wp_region_state mx (by kernel_rfl) [some (.pointer (some ⟨gb, 0, none⟩)), some (.pointer (some ⟨gn, 0, none⟩)), some (.pointer (some ⟨gn, 0, none⟩)), some (.pointer (some ⟨gn, 2, none⟩)), some (.pointer (some ⟨gn, 2, none⟩)), some (.pointer pl), some (.int .i64 fk), some (.func (.func g) #[] lb), some (.bool false), some (.bool false), some (undef), some (undef), some (undef), some (undef), some (undef), some (undef), some (undef), some (undef), some (undef), some (undef), some (undef), some (undef), some (.bool false), some (.bool false), some (undef), some (undef), some (undef), some (undef), some (undef), some (undef), some (undef), some (.bool false), some (.bool false)] (fun L x => J (bif L 8 then s1 else s) x) (HS.out.hb _ _ _ HJ2.out (Below.refl _ _).drew) ?_ ?_
          · intro i o L vals w3 hi hL hdep hC hJ hV
            have hlt : i < 33 := by have := (List.getElem?_eq_some_iff.1 hi).1; simpa using this
            generalize hA : frA _ _ L vals = a'
            have hT0 : a'.tmps.getD 0 undef = .pointer (some ⟨gb, 0, none⟩) := by rw [← hA, frA_base (by kernel_rfl)]; rfl
            have hT1 : a'.tmps.getD 1 undef = .pointer (some ⟨gn, 0, none⟩) := by rw [← hA, frA_base (by kernel_rfl)]; rfl
            have hT2 : a'.tmps.getD 2 undef = .int .i64 fk := by rw [← hA, frA_base (by kernel_rfl)]; rfl
            have hT3 : a'.tmps.getD 3 undef = .func (.func g) #[] lb := by rw [← hA, frA_base (by kernel_rfl)]; rfl
            have hD := Lib.hid (fun k t (hk : L k = true) (ht : dstOf _ k = some t) => hA ▸ frA_done (by kernel_rfl) (vals := vals) hk ht)
            clear hA
            have hN2 := HN.out.keep (HS.out.hz _ _ hJ) (HS.out.hk _ _ hJ)
            have n0 := hN2.c0
            have n1 := hN2.c1
            have n2 := hN2.c2
            have n3 := hN2.c3
            clear hN2
            obtain rfl | rfl | rfl | rfl | rfl | rfl | rfl | rfl | rfl | rfl | rfl | rfl | rfl | rfl | rfl | rfl | rfl | rfl | rfl | rfl | rfl | rfl | rfl | rfl | rfl | rfl | rfl | rfl | rfl | rfl | rfl | rfl | rfl : i = 0 ∨ i = 1 ∨ i = 2 ∨ i = 3 ∨ i = 4 ∨ i = 5 ∨ i = 6 ∨ i = 7 ∨ i = 8 ∨ i = 9 ∨ i = 10 ∨ i = 11 ∨ i = 12 ∨ i = 13 ∨ i = 14 ∨ i = 15 ∨ i = 16 ∨ i = 17 ∨ i = 18 ∨ i = 19 ∨ i = 20 ∨ i = 21 ∨ i = 22 ∨ i = 23 ∨ i = 24 ∨ i = 25 ∨ i = 26 ∨ i = 27 ∨ i = 28 ∨ i = 29 ∨ i = 30 ∨ i = 31 ∨ i = 32 := by omega
            all_goals
              injection hi with hi
              subst hi
              try simp [Region.binds] at hdep
            · exact step_run rfl (v := .pointer (some ⟨gb, 0, none⟩)) (w' := w3) (by go_simp) ⟨EqV.self rfl, hJ⟩
            · exact step_run rfl (v := .pointer (some ⟨gn, 0, none⟩)) (w' := w3) (by go_simp) ⟨EqV.self rfl, hJ⟩
            · have d33 := hD.out 1 33 (by simp [hdep]) rfl
              rw [show vals 1 = .pointer (some ⟨gn, 0, none⟩) from (hV 1 (by simp [hdep])).of rfl] at d33
              exact step_run rfl (v := .pointer (some ⟨gn, 0, none⟩)) (w' := w3) (by go_simp) ⟨EqV.self rfl, hJ⟩
            · have d34 := hD.out 2 34 (by simp [hdep]) rfl
              rw [show vals 2 = .pointer (some ⟨gn, 0, none⟩) from (hV 2 (by simp [hdep])).of rfl] at d34
              exact step_run rfl (v := .pointer (some ⟨gn, 2, none⟩)) (w' := w3) (by go_simp) ⟨EqV.self rfl, hJ⟩
            · have d35 := hD.out 3 35 (by simp [hdep]) rfl
              rw [show vals 3 = .pointer (some ⟨gn, 2, none⟩) from (hV 3 (by simp [hdep])).of rfl] at d35
              exact step_run rfl (v := .pointer (some ⟨gn, 2, none⟩)) (w' := w3) (by go_simp) ⟨EqV.self rfl, hJ⟩
            · have d36 := hD.out 4 36 (by simp [hdep]) rfl
              rw [show vals 4 = .pointer (some ⟨gn, 2, none⟩) from (hV 4 (by simp [hdep])).of rfl] at d36
              exact step_run rfl (v := .pointer pl) (w' := w3) (by go_simp) ⟨EqV.self rfl, hJ⟩
            · exact step_run rfl (v := .int .i64 fk) (w' := w3) (by go_simp) ⟨EqV.self rfl, hJ⟩
            · exact step_run rfl (v := .func (.func g) #[] lb) (w' := w3) (by go_simp) ⟨EqV.self rfl, hJ⟩
            · have d32 := hD.out 0 32 (by simp [hdep]) rfl
              rw [show vals 0 = .pointer (some ⟨gb, 0, none⟩) from (hV 0 (by simp [hdep])).of rfl] at d32
              have d37 := hD.out 5 37 (by simp [hdep]) rfl
              rw [show vals 5 = .pointer pl from (hV 5 (by simp [hdep])).of rfl] at d37
              have d38 := hD.out 6 38 (by simp [hdep]) rfl
              rw [show vals 6 = .int .i64 fk from (hV 6 (by simp [hdep])).of rfl] at d38
              have d39 := hD.out 7 39 (by simp [hdep]) rfl
              rw [show vals 7 = .func (.func g) #[] lb from (hV 7 (by simp [hdep])).of rfl] at d39
              skip
              refine step_enter rfl (w' := w3) (by go_simp) ((CL.out w3 (by simpa [hL] using hJ)).mono ?_)
              rintro e w1 ⟨rfl, hj1⟩
              exact ⟨_, rfl, EqV.self rfl, by simpa [updL] using hj1⟩
            · have d40 := hD.out 8 40 (by simp [hdep]) rfl
              rw [show vals 8 = .bool false from (hV 8 (by simp [hdep])).of rfl] at d40
              exact step_run rfl (v := .bool false) (w' := w3) (by go_simp) ⟨EqV.self rfl, hJ⟩
            · have d41 := hD.out 9 41 (by simp [hdep]) rfl
              rw [show vals 9 = .bool false from (hV 9 (by simp [hdep])).of rfl] at d41
              exact step_shut (wanted_shut rfl rfl d41 (by decide)) ⟨EqV.self rfl, hJ⟩
            · have d41 := hD.out 9 41 (by simp [hdep]) rfl
              rw [show vals 9 = .bool false from (hV 9 (by simp [hdep])).of rfl] at d41
              exact step_shut (wanted_shut rfl rfl d41 (by decide)) ⟨EqV.self rfl, hJ⟩
            · have d43 := hD.out 11 43 (by simp [hdep]) rfl
              rw [show vals 11 = undef from (hV 11 (by simp [hdep])).of rfl] at d43
              have d41 := hD.out 9 41 (by simp [hdep]) rfl
              rw [show vals 9 = .bool false from (hV 9 (by simp [hdep])).of rfl] at d41
              exact step_shut (wanted_shut rfl rfl d41 (by decide)) ⟨EqV.self rfl, hJ⟩
            · have d44 := hD.out 12 44 (by simp [hdep]) rfl
              rw [show vals 12 = undef from (hV 12 (by simp [hdep])).of rfl] at d44
              have d41 := hD.out 9 41 (by simp [hdep]) rfl
              rw [show vals 9 = .bool false from (hV 9 (by simp [hdep])).of rfl] at d41
              exact step_shut (wanted_shut rfl rfl d41 (by decide)) ⟨EqV.self rfl, hJ⟩
            · have d45 := hD.out 13 45 (by simp [hdep]) rfl
              rw [show vals 13 = undef from (hV 13 (by simp [hdep])).of rfl] at d45
              have d41 := hD.out 9 41 (by simp [hdep]) rfl
              rw [show vals 9 = .bool false from (hV 9 (by simp [hdep])).of rfl] at d41
              exact step_shut (wanted_shut rfl rfl d41 (by decide)) ⟨EqV.self rfl, hJ⟩
            · have d46 := hD.out 14 46 (by simp [hdep]) rfl
              rw [show vals 14 = undef from (hV 14 (by simp [hdep])).of rfl] at d46
              have d41 := hD.out 9 41 (by simp [hdep]) rfl
              rw [show vals 9 = .bool false from (hV 9 (by simp [hdep])).of rfl] at d41
              exact step_shut (wanted_shut rfl rfl d41 (by decide)) ⟨EqV.self rfl, hJ⟩
            · have d41 := hD.out 9 41 (by simp [hdep]) rfl
              rw [show vals 9 = .bool false from (hV 9 (by simp [hdep])).of rfl] at d41
              exact step_shut (wanted_shut rfl rfl d41 (by decide)) ⟨EqV.self rfl, hJ⟩
            · have d48 := hD.out 16 48 (by simp [hdep]) rfl
              rw [show vals 16 = undef from (hV 16 (by simp [hdep])).of rfl] at d48
              have d41 := hD.out 9 41 (by simp [hdep]) rfl
              rw [show vals 9 = .bool false from (hV 9 (by simp [hdep])).of rfl] at d41
              exact step_shut (wanted_shut rfl rfl d41 (by decide)) ⟨EqV.self rfl, hJ⟩
            · have d49 := hD.out 17 49 (by simp [hdep]) rfl
              rw [show vals 17 = undef from (hV 17 (by simp [hdep])).of rfl] at d49
              have d41 := hD.out 9 41 (by simp [hdep]) rfl
              rw [show vals 9 = .bool false from (hV 9 (by simp [hdep])).of rfl] at d41
              exact step_shut (wanted_shut rfl rfl d41 (by decide)) ⟨EqV.self rfl, hJ⟩
            · have d50 := hD.out 18 50 (by simp [hdep]) rfl
              rw [show vals 18 = undef from (hV 18 (by simp [hdep])).of rfl] at d50
              have d41 := hD.out 9 41 (by simp [hdep]) rfl
              rw [show vals 9 = .bool false from (hV 9 (by simp [hdep])).of rfl] at d41
              exact step_shut (wanted_shut rfl rfl d41 (by decide)) ⟨EqV.self rfl, hJ⟩
            · have d51 := hD.out 19 51 (by simp [hdep]) rfl
              rw [show vals 19 = undef from (hV 19 (by simp [hdep])).of rfl] at d51
              have d41 := hD.out 9 41 (by simp [hdep]) rfl
              rw [show vals 9 = .bool false from (hV 9 (by simp [hdep])).of rfl] at d41
              exact step_shut (wanted_shut rfl rfl d41 (by decide)) ⟨EqV.self rfl, hJ⟩
            · have d42 := hD.out 10 42 (by simp [hdep]) rfl
              rw [show vals 10 = undef from (hV 10 (by simp [hdep])).of rfl] at d42
              have d47 := hD.out 15 47 (by simp [hdep]) rfl
              rw [show vals 15 = undef from (hV 15 (by simp [hdep])).of rfl] at d47
              have d52 := hD.out 20 52 (by simp [hdep]) rfl
              rw [show vals 20 = undef from (hV 20 (by simp [hdep])).of rfl] at d52
              have d41 := hD.out 9 41 (by simp [hdep]) rfl
              rw [show vals 9 = .bool false from (hV 9 (by simp [hdep])).of rfl] at d41
              exact step_shut (wanted_shut rfl rfl d41 (by decide)) ⟨EqV.self rfl, hJ⟩
            · have d41 := hD.out 9 41 (by simp [hdep]) rfl
              rw [show vals 9 = .bool false from (hV 9 (by simp [hdep])).of rfl] at d41
              have d53 := hD.out 21 53 (by simp [hdep]) rfl
              rw [show vals 21 = undef from (hV 21 (by simp [hdep])).of rfl] at d53
              exact step_run rfl (v := .bool false) (w' := w3) (by go_simp) ⟨EqV.self rfl, hJ⟩
            · have d54 := hD.out 22 54 (by simp [hdep]) rfl
              rw [show vals 22 = .bool false from (hV 22 (by simp [hdep])).of rfl] at d54
              exact step_run rfl (v := .bool false) (w' := w3) (by go_simp) ⟨EqV.self rfl, hJ⟩
            · have d55 := hD.out 23 55 (by simp [hdep]) rfl
              rw [show vals 23 = .bool false from (hV 23 (by simp [hdep])).of rfl] at d55
              exact step_shut (wanted_shut rfl rfl d55 (by decide)) ⟨EqV.self rfl, hJ⟩
            · have d56 := hD.out 24 56 (by simp [hdep]) rfl
              rw [show vals 24 = undef from (hV 24 (by simp [hdep])).of rfl] at d56
              have d55 := hD.out 23 55 (by simp [hdep]) rfl
              rw [show vals 23 = .bool false from (hV 23 (by simp [hdep])).of rfl] at d55
              exact step_shut (wanted_shut rfl rfl d55 (by decide)) ⟨EqV.self rfl, hJ⟩
            · have d57 := hD.out 25 57 (by simp [hdep]) rfl
              rw [show vals 25 = undef from (hV 25 (by simp [hdep])).of rfl] at d57
              have d55 := hD.out 23 55 (by simp [hdep]) rfl
              rw [show vals 23 = .bool false from (hV 23 (by simp [hdep])).of rfl] at d55
              exact step_shut (wanted_shut rfl rfl d55 (by decide)) ⟨EqV.self rfl, hJ⟩
            · have d58 := hD.out 26 58 (by simp [hdep]) rfl
              rw [show vals 26 = undef from (hV 26 (by simp [hdep])).of rfl] at d58
              have d55 := hD.out 23 55 (by simp [hdep]) rfl
              rw [show vals 23 = .bool false from (hV 23 (by simp [hdep])).of rfl] at d55
              exact step_shut (wanted_shut rfl rfl d55 (by decide)) ⟨EqV.self rfl, hJ⟩
            · have d59 := hD.out 27 59 (by simp [hdep]) rfl
              rw [show vals 27 = undef from (hV 27 (by simp [hdep])).of rfl] at d59
              have d55 := hD.out 23 55 (by simp [hdep]) rfl
              rw [show vals 23 = .bool false from (hV 23 (by simp [hdep])).of rfl] at d55
              exact step_shut (wanted_shut rfl rfl d55 (by decide)) ⟨EqV.self rfl, hJ⟩
            · have d55 := hD.out 23 55 (by simp [hdep]) rfl
              rw [show vals 23 = .bool false from (hV 23 (by simp [hdep])).of rfl] at d55
              exact step_shut (wanted_shut rfl rfl d55 (by decide)) ⟨EqV.self rfl, hJ⟩
            · have d60 := hD.out 28 60 (by simp [hdep]) rfl
              rw [show vals 28 = undef from (hV 28 (by simp [hdep])).of rfl] at d60
              have d61 := hD.out 29 61 (by simp [hdep]) rfl
              rw [show vals 29 = undef from (hV 29 (by simp [hdep])).of rfl] at d61
              have d55 := hD.out 23 55 (by simp [hdep]) rfl
              rw [show vals 23 = .bool false from (hV 23 (by simp [hdep])).of rfl] at d55
              exact step_shut (wanted_shut rfl rfl d55 (by decide)) ⟨EqV.self rfl, hJ⟩
            · have d55 := hD.out 23 55 (by simp [hdep]) rfl
              rw [show vals 23 = .bool false from (hV 23 (by simp [hdep])).of rfl] at d55
              have d62 := hD.out 30 62 (by simp [hdep]) rfl
              rw [show vals 30 = undef from (hV 30 (by simp [hdep])).of rfl] at d62
              exact step_run rfl (v := .bool false) (w' := w3) (by go_simp) ⟨EqV.self rfl, hJ⟩
            · have d63 := hD.out 31 63 (by simp [hdep]) rfl
              rw [show vals 31 = .bool false from (hV 31 (by simp [hdep])).of rfl] at d63
              exact step_run rfl (v := .bool false) (w' := w3) (by go_simp) ⟨EqV.self rfl, hJ⟩
          · intro vals w3 hJ hV
            have e0 : vals 0 = .pointer (some ⟨gb, 0, none⟩) := (hV 0 (by decide)).of rfl
            have e1 : vals 1 = .pointer (some ⟨gn, 0, none⟩) := (hV 1 (by decide)).of rfl
            have e2 : vals 2 = .pointer (some ⟨gn, 0, none⟩) := (hV 2 (by decide)).of rfl
            have e3 : vals 3 = .pointer (some ⟨gn, 2, none⟩) := (hV 3 (by decide)).of rfl
            have e4 : vals 4 = .pointer (some ⟨gn, 2, none⟩) := (hV 4 (by decide)).of rfl
            have e5 : vals 5 = .pointer pl := (hV 5 (by decide)).of rfl
            have e6 : vals 6 = .int .i64 fk := (hV 6 (by decide)).of rfl
            have e7 : vals 7 = .func (.func g) #[] lb := (hV 7 (by decide)).of rfl
            have e8 : vals 8 = .bool false := (hV 8 (by decide)).of rfl
            have e9 : vals 9 = .bool false := (hV 9 (by decide)).of rfl
            have e10 : vals 10 = undef := (hV 10 (by decide)).of rfl
            have e11 : vals 11 = undef := (hV 11 (by decide)).of rfl
            have e12 : vals 12 = undef := (hV 12 (by decide)).of rfl
            have e13 : vals 13 = undef := (hV 13 (by decide)).of rfl
            have e14 : vals 14 = undef := (hV 14 (by decide)).of rfl
            have e15 : vals 15 = undef := (hV 15 (by decide)).of rfl
            have e16 : vals 16 = undef := (hV 16 (by decide)).of rfl
            have e17 : vals 17 = undef := (hV 17 (by decide)).of rfl
            have e18 : vals 18 = undef := (hV 18 (by decide)).of rfl
            have e19 : vals 19 = undef := (hV 19 (by decide)).of rfl
            have e20 : vals 20 = undef := (hV 20 (by decide)).of rfl
            have e21 : vals 21 = undef := (hV 21 (by decide)).of rfl
            have e22 : vals 22 = .bool false := (hV 22 (by decide)).of rfl
            have e23 : vals 23 = .bool false := (hV 23 (by decide)).of rfl
            have e24 : vals 24 = undef := (hV 24 (by decide)).of rfl
            have e25 : vals 25 = undef := (hV 25 (by decide)).of rfl
            have e26 : vals 26 = undef := (hV 26 (by decide)).of rfl
            have e27 : vals 27 = undef := (hV 27 (by decide)).of rfl
            have e28 : vals 28 = undef := (hV 28 (by decide)).of rfl
            have e29 : vals 29 = undef := (hV 29 (by decide)).of rfl
            have e30 : vals 30 = undef := (hV 30 (by decide)).of rfl
            have e31 : vals 31 = .bool false := (hV 31 (by decide)).of rfl
            have e32 : vals 32 = .bool false := (hV 32 (by decide)).of rfl
            simp only [putsL, Act.put, List.setIfInBounds_toArray, List.set_cons_zero, List.set_cons_succ, e0, e1, e2, e3, e4, e5, e6, e7, e8, e9, e10, e11, e12, e13, e14, e15, e16, e17, e18, e19, e20, e21, e22, e23, e24, e25, e26, e27, e28, e29, e30, e31, e32]
            clear e0 e1 e2 e3 e4 e5 e6 e7 e8 e9 e10 e11 e12 e13 e14 e15 e16 e17 e18 e19 e20 e21 e22 e23 e24 e25 e26 e27 e28 e29 e30 e31 e32
            have HJ3 := Lib.hid hJ
            clear hJ hV
            go_wp2_with fail
            go_ret
            exact ⟨rfl, HJ3.out⟩
      | true =>
        simp only [if_true]
        have hA1 := HA.out rfl
        simp only [RunOk] at hA1
        have CS1 := Lib.hid (fun w hj => CS.out s1 w hj hA1.1)
        have HA1 := Lib.hid hA1.2
        clear hA1
        obtain ⟨r2, hr2⟩ : ∃ r2, f s1 k v = r2 := ⟨_, rfl⟩
        rw [hr2] at CS1 HA1 ⊢
        clear hr2 CS
        obtain ⟨s2, b2⟩ := r2
        simp only at CS1 ⊢
        cases b2 with
        | false =>
          simp only [Bool.false_eq_true, if_false]
          have hdd : decide (d < 0) = false := by simp; omega
          go_enter Try.func77, Try.ntmps77
          go_wp2_with fail
          clear hdd
          refine wp_region_mono mx (by kernel_rfl) [VP.eq (.pointer (some ⟨gb, 0, none⟩)), VP.eq (.pointer (some ⟨gb, 0, none⟩)), VP.eq (.pointer (some ⟨gb, 0, none⟩)), VP.eq (.func (.func F) #[] #[]), VP.eq (.pointer (some ⟨gn, 0, none⟩)), VP.eq (.pointer (some ⟨gn, 0, none⟩)), VP.eq (.pointer (some ⟨gn, 0, none⟩)), VP.eq (.pointer (some ⟨gn, 0, none⟩)), VP.eq (.int .i64 k), VP.eq (.int .i64 fk), VP.eq (.int .i64 d), VP.eq (.bool false)] ?_ ?_
          · intro i o L vals w2 hi hL hdep hC hJ hV
            have hlt : i < 12 := by have := (List.getElem?_eq_some_iff.1 hi).1; simpa using this
            generalize hA : frA _ _ L vals = a'
            have hT0 : a'.tmps.getD 0 undef = .pointer (some ⟨gb, 0, none⟩) := by rw [← hA, frA_base (by kernel_rfl)]; rfl
            have hT1 : a'.tmps.getD 1 undef = .pointer (some ⟨gn, 0, none⟩) := by rw [← hA, frA_base (by kernel_rfl)]; rfl
            have hT2 : a'.tmps.getD 2 undef = .int .i64 fk := by rw [← hA, frA_base (by kernel_rfl)]; rfl
            have hD := Lib.hid (fun k t (hk : L k = true) (ht : dstOf _ k = some t) => hA ▸ frA_done (by kernel_rfl) (vals := vals) hk ht)
            clear hA
            have n0 := (HNW.out.below hJ).c0
            have g0 : w2.cell? ⟨gb, 0, none⟩ = some (.func (.func F) #[] #[]) := by rw [hJ.cell (p := ⟨gb, 0, none⟩) HGL.out]; exact HG0.out
            obtain rfl | rfl | rfl | rfl | rfl | rfl | rfl | rfl | rfl | rfl | rfl | rfl : i = 0 ∨ i = 1 ∨ i = 2 ∨ i = 3 ∨ i = 4 ∨ i = 5 ∨ i = 6 ∨ i = 7 ∨ i = 8 ∨ i = 9 ∨ i = 10 ∨ i = 11 := by omega
            all_goals
              injection hi with hi
              subst hi
              try simp [Region.binds] at hdep
            · exact step_run rfl (v := .pointer (some ⟨gb, 0, none⟩)) (w' := w2) (by go_simp) ⟨rfl, Below.refl _ _⟩
            · have d11 := hD.out 0 11 (by simp [hdep]) rfl
              rw [show vals 0 = .pointer (some ⟨gb, 0, none⟩) from hV 0 (by simp [hdep])] at d11
              exact step_run rfl (v := .pointer (some ⟨gb, 0, none⟩)) (w' := w2) (by go_simp) ⟨rfl, Below.refl _ _⟩
            · have d12 := hD.out 1 12 (by simp [hdep]) rfl
              rw [show vals 1 = .pointer (some ⟨gb, 0, none⟩) from hV 1 (by simp [hdep])] at d12
              exact step_run rfl (v := .pointer (some ⟨gb, 0, none⟩)) (w' := w2) (by go_simp) ⟨rfl, Below.refl _ _⟩
            · have d13 := hD.out 2 13 (by simp [hdep]) rfl
              rw [show vals 2 = .pointer (some ⟨gb, 0, none⟩) from hV 2 (by simp [hdep])] at d13
              exact step_run rfl (v := .func (.func F) #[] #[]) (w' := w2) (by go_simp) ⟨rfl, Below.refl _ _⟩
            · exact step_run rfl (v := .pointer (some ⟨gn, 0, none⟩)) (w' := w2) (by go_simp) ⟨rfl, Below.refl _ _⟩
            · have d15 := hD.out 4 15 (by simp [hdep]) rfl
              rw [show vals 4 = .pointer (some ⟨gn, 0, none⟩) from hV 4 (by simp [hdep])] at d15
              exact step_run rfl (v := .pointer (some ⟨gn, 0, none⟩)) (w' := w2) (by go_simp) ⟨rfl, Below.refl _ _⟩
            · have d16 := hD.out 5 16 (by simp [hdep]) rfl
              rw [show vals 5 = .pointer (some ⟨gn, 0, none⟩) from hV 5 (by simp [hdep])] at d16
              exact step_run rfl (v := .pointer (some ⟨gn, 0, none⟩)) (w' := w2) (by go_simp) ⟨rfl, Below.refl _ _⟩
            · have d17 := hD.out 6 17 (by simp [hdep]) rfl
              rw [show vals 6 = .pointer (some ⟨gn, 0, none⟩) from hV 6 (by simp [hdep])] at d17
              exact step_run rfl (v := .pointer (some ⟨gn, 0, none⟩)) (w' := w2) (by go_simp) ⟨rfl, Below.refl _ _⟩
            · have d18 := hD.out 7 18 (by simp [hdep]) rfl
              rw [show vals 7 = .pointer (some ⟨gn, 0, none⟩) from hV 7 (by simp [hdep])] at d18
              exact step_run rfl (v := .int .i64 k) (w' := w2) (by go_simp) ⟨rfl, Below.refl _ _⟩
            · exact step_run rfl (v := .int .i64 fk) (w' := w2) (by go_simp) ⟨rfl, Below.refl _ _⟩
            · have d14 := hD.out 3 14 (by simp [hdep]) rfl
              rw [show vals 3 = .func (.func F) #[] #[] from hV 3 (by simp [hdep])] at d14
              have d19 := hD.out 8 19 (by simp [hdep]) rfl
              rw [show vals 8 = .int .i64 k from hV 8 (by simp [hdep])] at d19
              have d20 := hD.out 9 20 (by simp [hdep]) rfl
              rw [show vals 9 = .int .i64 fk from hV 9 (by simp [hdep])] at d20
              refine step_enter rfl (w' := w2) (by go_simp) ((CC.out w2).mono ?_)
              rintro e w1 ⟨rfl, rfl⟩
              exact ⟨_, rfl, rfl, Below.refl _ _⟩
            · have d21 := hD.out 10 21 (by simp [hdep]) rfl
              rw [show vals 10 = .int .i64 d from hV 10 (by simp [hdep])] at d21
              exact step_run rfl (v := .bool false) (w' := w2) (by go_simp; skip) ⟨rfl, Below.refl _ _⟩
          · intro vals w2 hJ hV
            have e0 : vals 0 = .pointer (some ⟨gb, 0, none⟩) := hV 0 (by decide)
            have e1 : vals 1 = .pointer (some ⟨gb, 0, none⟩) := hV 1 (by decide)
            have e2 : vals 2 = .pointer (some ⟨gb, 0, none⟩) := hV 2 (by decide)
            have e3 : vals 3 = .func (.func F) #[] #[] := hV 3 (by decide)
            have e4 : vals 4 = .pointer (some ⟨gn, 0, none⟩) := hV 4 (by decide)
            have e5 : vals 5 = .pointer (some ⟨gn, 0, none⟩) := hV 5 (by decide)
            have e6 : vals 6 = .pointer (some ⟨gn, 0, none⟩) := hV 6 (by decide)
            have e7 : vals 7 = .pointer (some ⟨gn, 0, none⟩) := hV 7 (by decide)
            have e8 : vals 8 = .int .i64 k := hV 8 (by decide)
            have e9 : vals 9 = .int .i64 fk := hV 9 (by decide)
            have e10 : vals 10 = .int .i64 d := hV 10 (by decide)
            have e11 : vals 11 = .bool false := hV 11 (by decide)
            simp only [putsL, Act.put, List.setIfInBounds_toArray, List.set_cons_zero, List.set_cons_succ, e0, e1, e2, e3, e4, e5, e6, e7, e8, e9, e10, e11]
            clear e0 e1 e2 e3 e4 e5 e6 e7 e8 e9 e10 e11
            have HJ2 := Lib.hid (HS.out.hb _ _ _ HJ.out hJ)
            have HN2 := Lib.hid (HNW.out.below hJ)
            clear hJ hV HGL HG0 HNW HJ
            go_wp2_with fail
            refine wp_region_state mx (by kernel_rfl) [some (.pointer (some ⟨gb, 0, none⟩)), some (.pointer (some ⟨gn, 0, none⟩)), some (.pointer (some ⟨gn, 0, none⟩)), some (.pointer (some ⟨gn, 2, none⟩)), some (.pointer (some ⟨gn, 2, none⟩)), some (.pointer pl), some (.int .i64 fk), some (.func (.func g) #[] lb), some (.bool true), some (.bool true), some (.func (.func g) #[] lb), some (.pointer (some ⟨gn, 0, none⟩)), some (.pointer (some ⟨gn, 0, none⟩)), some (.pointer (some ⟨gn, 0, none⟩)), some (.pointer (some ⟨gn, 0, none⟩)), some (.int .i64 k), some (.pointer (some ⟨gn, 0, none⟩)), some (.pointer (some ⟨gn, 0, none⟩)), some (.pointer (some ⟨gn, 0, none⟩)), some (.pointer (some ⟨gn, 1, none⟩)), some (.string v), some (.bool false), some (.bool false), some (.bool false), some (undef), some (undef), some (undef), some (undef), some (undef), some (undef), some (undef), some (.bool false), some (.bool false)] (fun L x => J (bif L 21 then s2 else bif L 8 then s1 else s) x) (HS.out.hb _ _ _ HJ2.out (Below.refl _ _).drew) ?_ ?_
            · intro i o L vals w3 hi hL hdep hC hJ hV
              have hlt : i < 33 := by have := (List.getElem?_eq_some_iff.1 hi).1; simpa using this
              generalize hA : frA _ _ L vals = a'
              have hT0 : a'.tmps.getD 0 undef = .pointer (some ⟨gb, 0, none⟩) := by rw [← hA, frA_base (by kernel_rfl)]; rfl
              have hT1 : a'.tmps.getD 1 undef = .pointer (some ⟨gn, 0, none⟩) := by rw [← hA, frA_base (by kernel_rfl)]; rfl
              have hT2 : a'.tmps.getD 2 undef = .int .i64 fk := by rw [← hA, frA_base (by kernel_rfl)]; rfl
              have hT3 : a'.tmps.getD 3 undef = .func (.func g) #[] lb := by rw [← hA, frA_base (by kernel_rfl)]; rfl
              have hD := Lib.hid (fun k t (hk : L k = true) (ht : dstOf _ k = some t) => hA ▸ frA_done (by kernel_rfl) (vals := vals) hk ht)
              clear hA
              have hN2 := HN.out.keep (HS.out.hz _ _ hJ) (HS.out.hk _ _ hJ)
              have n0 := hN2.c0
              have n1 := hN2.c1
              have n2 := hN2.c2
              have n3 := hN2.c3
              clear hN2
              obtain rfl | rfl | rfl | rfl | rfl | rfl | rfl | rfl | rfl | rfl | rfl | rfl | rfl | rfl | rfl | rfl | rfl | rfl | rfl | rfl | rfl | rfl | rfl | rfl | rfl | rfl | rfl | rfl | rfl | rfl | rfl | rfl | rfl : i = 0 ∨ i = 1 ∨ i = 2 ∨ i = 3 ∨ i = 4 ∨ i = 5 ∨ i = 6 ∨ i = 7 ∨ i = 8 ∨ i = 9 ∨ i = 10 ∨ i = 11 ∨ i = 12 ∨ i = 13 ∨ i = 14 ∨ i = 15 ∨ i = 16 ∨ i = 17 ∨ i = 18 ∨ i = 19 ∨ i = 20 ∨ i = 21 ∨ i = 22 ∨ i = 23 ∨ i = 24 ∨ i = 25 ∨ i = 26 ∨ i = 27 ∨ i = 28 ∨ i = 29 ∨ i = 30 ∨ i = 31 ∨ i = 32 := by omega
              all_goals
                injection hi with hi
                subst hi
                try simp [Region.binds] at hdep
              · exact step_run rfl (v := .pointer (some ⟨gb, 0, none⟩)) (w' := w3) (by go_simp) ⟨EqV.self rfl, hJ⟩
              · exact step_run rfl (v := .pointer (some ⟨gn, 0, none⟩)) (w' := w3) (by go_simp) ⟨EqV.self rfl, hJ⟩
              · have d33 := hD.out 1 33 (by simp [hdep]) rfl
                rw [show vals 1 = .pointer (some ⟨gn, 0, none⟩) from (hV 1 (by simp [hdep])).of rfl] at d33
                exact step_run rfl (v := .pointer (some ⟨gn, 0, none⟩)) (w' := w3) (by go_simp) ⟨EqV.self rfl, hJ⟩
              · have d34 := hD.out 2 34 (by simp [hdep]) rfl
                rw [show vals 2 = .pointer (some ⟨gn, 0, none⟩) from (hV 2 (by simp [hdep])).of rfl] at d34
                exact step_run rfl (v := .pointer (some ⟨gn, 2, none⟩)) (w' := w3) (by go_simp) ⟨EqV.self rfl, hJ⟩
              · have d35 := hD.out 3 35 (by simp [hdep]) rfl
                rw [show vals 3 = .pointer (some ⟨gn, 2, none⟩) from (hV 3 (by simp [hdep])).of rfl] at d35
                exact step_run rfl (v := .pointer (some ⟨gn, 2, none⟩)) (w' := w3) (by go_simp) ⟨EqV.self rfl, hJ⟩
              · have d36 := hD.out 4 36 (by simp [hdep]) rfl
                rw [show vals 4 = .pointer (some ⟨gn, 2, none⟩) from (hV 4 (by simp [hdep])).of rfl] at d36
                exact step_run rfl (v := .pointer pl) (w' := w3) (by go_simp) ⟨EqV.self rfl, hJ⟩
              · exact step_run rfl (v := .int .i64 fk) (w' := w3) (by go_simp) ⟨EqV.self rfl, hJ⟩
              · exact step_run rfl (v := .func (.func g) #[] lb) (w' := w3) (by go_simp) ⟨EqV.self rfl, hJ⟩
              · have d32 := hD.out 0 32 (by simp [hdep]) rfl
                rw [show vals 0 = .pointer (some ⟨gb, 0, none⟩) from (hV 0 (by simp [hdep])).of rfl] at d32
                have d37 := hD.out 5 37 (by simp [hdep]) rfl
                rw [show vals 5 = .pointer pl from (hV 5 (by simp [hdep])).of rfl] at d37
                have d38 := hD.out 6 38 (by simp [hdep]) rfl
                rw [show vals 6 = .int .i64 fk from (hV 6 (by simp [hdep])).of rfl] at d38
                have d39 := hD.out 7 39 (by simp [hdep]) rfl
                rw [show vals 7 = .func (.func g) #[] lb from (hV 7 (by simp [hdep])).of rfl] at d39
                have hno21 : L 21 = false := by
                  cases h : L 21 with
                  | false => rfl
                  | true => exact absurd (hC.path [21, 9, 8] (by kernel_rfl) 21 rfl h 8 rfl) (by simp [hL])
                refine step_enter rfl (w' := w3) (by go_simp) ((CL.out w3 (by simpa [hL, hno21] using hJ)).mono ?_)
                rintro e w1 ⟨rfl, hj1⟩
                exact ⟨_, rfl, EqV.self rfl, by simpa [updL, hno21] using hj1⟩
              · have d40 := hD.out 8 40 (by simp [hdep]) rfl
                rw [show vals 8 = .bool true from (hV 8 (by simp [hdep])).of rfl] at d40
                exact step_run rfl (v := .bool true) (w' := w3) (by go_simp) ⟨EqV.self rfl, hJ⟩
              · have d41 := hD.out 9 41 (by simp [hdep]) rfl
                rw [show vals 9 = .bool true from (hV 9 (by simp [hdep])).of rfl] at d41
                exact step_run' (wanted_open rfl rfl d41) (v := .func (.func g) #[] lb) (w' := w3) (by go_simp) ⟨EqV.self rfl, hJ⟩
              · have d41 := hD.out 9 41 (by simp [hdep]) rfl
                rw [show vals 9 = .bool true from (hV 9 (by simp [hdep])).of rfl] at d41
                exact step_run' (wanted_open rfl rfl d41) (v := .pointer (some ⟨gn, 0, none⟩)) (w' := w3) (by go_simp) ⟨EqV.self rfl, hJ⟩
              · have d43 := hD.out 11 43 (by simp [hdep]) rfl
                rw [show vals 11 = .pointer (some ⟨gn, 0, none⟩) from (hV 11 (by simp [hdep])).of rfl] at d43
                have d41 := hD.out 9 41 (by simp [hdep]) rfl
                rw [show vals 9 = .bool true from (hV 9 (by simp [hdep])).of rfl] at d41
                exact step_run' (wanted_open rfl rfl d41) (v := .pointer (some ⟨gn, 0, none⟩)) (w' := w3) (by go_simp) ⟨EqV.self rfl, hJ⟩
              · have d44 := hD.out 12 44 (by simp [hdep]) rfl
                rw [show vals 12 = .pointer (some ⟨gn, 0, none⟩) from (hV 12 (by simp [hdep])).of rfl] at d44
                have d41 := hD.out 9 41 (by simp [hdep]) rfl
                rw [show vals 9 = .bool true from (hV 9 (by simp [hdep])).of rfl] at d41
                exact step_run' (wanted_open rfl rfl d41) (v := .pointer (some ⟨gn, 0, none⟩)) (w' := w3) (by go_simp) ⟨EqV.self rfl, hJ⟩
              · have d45 := hD.out 13 45 (by simp [hdep]) rfl
                rw [show vals 13 = .pointer (some ⟨gn, 0, none⟩) from (hV 13 (by simp [hdep])).of rfl] at d45
                have d41 := hD.out 9 41 (by simp [hdep]) rfl
                rw [show vals 9 = .bool true from (hV 9 (by simp [hdep])).of rfl] at d41
                exact step_run' (wanted_open rfl rfl d41) (v := .pointer (some ⟨gn, 0, none⟩)) (w' := w3) (by go_simp) ⟨EqV.self rfl, hJ⟩
              · have d46 := hD.out 14 46 (by simp [hdep]) rfl
                rw [show vals 14 = .pointer (some ⟨gn, 0, none⟩) from (hV 14 (by simp [hdep])).of rfl] at d46
                have d41 := hD.out 9 41 (by simp [hdep]) rfl
                rw [show vals 9 = .bool true from (hV 9 (by simp [hdep])).of rfl] at d41
                exact step_run' (wanted_open rfl rfl d41) (v := .int .i64 k) (w' := w3) (by go_simp) ⟨EqV.self rfl, hJ⟩
              · have d41 := hD.out 9 41 (by simp [hdep]) rfl
                rw [show vals 9 = .bool true from (hV 9 (by simp [hdep])).of rfl] at d41
                exact step_run' (wanted_open rfl rfl d41) (v := .pointer (some ⟨gn, 0, none⟩)) (w' := w3) (by go_simp) ⟨EqV.self rfl, hJ⟩
              · have d48 := hD.out 16 48 (by simp [hdep]) rfl
                rw [show vals 16 = .pointer (some ⟨gn, 0, none⟩) from (hV 16 (by simp [hdep])).of rfl] at d48
                have d41 := hD.out 9 41 (by simp [hdep]) rfl
                rw [show vals 9 = .bool true from (hV 9 (by simp [hdep])).of rfl] at d41
                exact step_run' (wanted_open rfl rfl d41) (v := .pointer (some ⟨gn, 0, none⟩)) (w' := w3) (by go_simp) ⟨EqV.self rfl, hJ⟩
              · have d49 := hD.out 17 49 (by simp [hdep]) rfl
                rw [show vals 17 = .pointer (some ⟨gn, 0, none⟩) from (hV 17 (by simp [hdep])).of rfl] at d49
                have d41 := hD.out 9 41 (by simp [hdep]) rfl
                rw [show vals 9 = .bool true from (hV 9 (by simp [hdep])).of rfl] at d41
                exact step_run' (wanted_open rfl rfl d41) (v := .pointer (some ⟨gn, 0, none⟩)) (w' := w3) (by go_simp) ⟨EqV.self rfl, hJ⟩
              · have d50 := hD.out 18 50 (by simp [hdep]) rfl
                rw [show vals 18 = .pointer (some ⟨gn, 0, none⟩) from (hV 18 (by simp [hdep])).of rfl] at d50
                have d41 := hD.out 9 41 (by simp [hdep]) rfl
                rw [show vals 9 = .bool true from (hV 9 (by simp [hdep])).of rfl] at d41
                exact step_run' (wanted_open rfl rfl d41) (v := .pointer (some ⟨gn, 1, none⟩)) (w' := w3) (by go_simp) ⟨EqV.self rfl, hJ⟩
              · have d51 := hD.out 19 51 (by simp [hdep]) rfl
                rw [show vals 19 = .pointer (some ⟨gn, 1, none⟩) from (hV 19 (by simp [hdep])).of rfl] at d51
                have d41 := hD.out 9 41 (by simp [hdep]) rfl
                rw [show vals 9 = .bool true from (hV 9 (by simp [hdep])).of rfl] at d41
                exact step_run' (wanted_open rfl rfl d41) (v := .string v) (w' := w3) (by go_simp) ⟨EqV.self rfl, hJ⟩
              · have d42 := hD.out 10 42 (by simp [hdep]) rfl
                rw [show vals 10 = .func (.func g) #[] lb from (hV 10 (by simp [hdep])).of rfl] at d42
                have d47 := hD.out 15 47 (by simp [hdep]) rfl
                rw [show vals 15 = .int .i64 k from (hV 15 (by simp [hdep])).of rfl] at d47
                have d52 := hD.out 20 52 (by simp [hdep]) rfl
                rw [show vals 20 = .string v from (hV 20 (by simp [hdep])).of rfl] at d52
                have d41 := hD.out 9 41 (by simp [hdep]) rfl
                rw [show vals 9 = .bool true from (hV 9 (by simp [hdep])).of rfl] at d41
                skip
                have hd8 : L 8 = true := hC.path [9, 8] (by kernel_rfl) 9 rfl (by simp [hdep]) 8 rfl
                refine step_enter' (wanted_open rfl rfl d41) (w' := w3) (by go_simp) ((CS1.out w3 (by simpa [hL, hd8] using hJ)).mono ?_)
                rintro e w1 ⟨rfl, hj1⟩
                exact ⟨_, rfl, EqV.self rfl, by simpa [updL] using hj1⟩
              · have d41 := hD.out 9 41 (by simp [hdep]) rfl
                rw [show vals 9 = .bool true from (hV 9 (by simp [hdep])).of rfl] at d41
                have d53 := hD.out 21 53 (by simp [hdep]) rfl
                rw [show vals 21 = .bool false from (hV 21 (by simp [hdep])).of rfl] at d53
                exact step_run rfl (v := .bool false) (w' := w3) (by go_simp) ⟨EqV.self rfl, hJ⟩
              · have d54 := hD.out 22 54 (by simp [hdep]) rfl
                rw [show vals 22 = .bool false from (hV 22 (by simp [hdep])).of rfl] at d54
                exact step_run rfl (v := .bool false) (w' := w3) (by go_simp) ⟨EqV.self rfl, hJ⟩
              · have d55 := hD.out 23 55 (by simp [hdep]) rfl
                rw [show vals 23 = .bool false from (hV 23 (by simp [hdep])).of rfl] at d55
                exact step_shut (wanted_shut rfl rfl d55 (by decide)) ⟨EqV.self rfl, hJ⟩
              · have d56 := hD.out 24 56 (by simp [hdep]) rfl
                rw [show vals 24 = undef from (hV 24 (by simp [hdep])).of rfl] at d56
                have d55 := hD.out 23 55 (by simp [hdep]) rfl
                rw [show vals 23 = .bool false from (hV 23 (by simp [hdep])).of rfl] at d55
                exact step_shut (wanted_shut rfl rfl d55 (by decide)) ⟨EqV.self rfl, hJ⟩
              · have d57 := hD.out 25 57 (by simp [hdep]) rfl
                rw [show vals 25 = undef from (hV 25 (by simp [hdep])).of rfl] at d57
                have d55 := hD.out 23 55 (by simp [hdep]) rfl
                rw [show vals 23 = .bool false from (hV 23 (by simp [hdep])).of rfl] at d55
                exact step_shut (wanted_shut rfl rfl d55 (by decide)) ⟨EqV.self rfl, hJ⟩
              · have d58 := hD.out 26 58 (by simp [hdep]) rfl
                rw [show vals 26 = undef from (hV 26 (by simp [hdep])).of rfl] at d58
                have d55 := hD.out 23 55 (by simp [hdep]) rfl
                rw [show vals 23 = .bool false from (hV 23 (by simp [hdep])).of rfl] at d55
                exact step_shut (wanted_shut rfl rfl d55 (by decide)) ⟨EqV.self rfl, hJ⟩
              · have d59 := hD.out 27 59 (by simp [hdep]) rfl
                rw [show vals 27 = undef from (hV 27 (by simp [hdep])).of rfl] at d59
                have d55 := hD.out 23 55 (by simp [hdep]) rfl
                rw [show vals 23 = .bool false from (hV 23 (by simp [hdep])).of rfl] at d55
                exact step_shut (wanted_shut rfl rfl d55 (by decide)) ⟨EqV.self rfl, hJ⟩
              · have d55 := hD.out 23 55 (by simp [hdep]) rfl
                rw [show vals 23 = .bool false from (hV 23 (by simp [hdep])).of rfl] at d55
                exact step_shut (wanted_shut rfl rfl d55 (by decide)) ⟨EqV.self rfl, hJ⟩
              · have d60 := hD.out 28 60 (by simp [hdep]) rfl
                rw [show vals 28 = undef from (hV 28 (by simp [hdep])).of rfl] at d60
                have d61 := hD.out 29 61 (by simp [hdep]) rfl
                rw [show vals 29 = undef from (hV 29 (by simp [hdep])).of rfl] at d61
                have d55 := hD.out 23 55 (by simp [hdep]) rfl
                rw [show vals 23 = .bool false from (hV 23 (by simp [hdep])).of rfl] at d55
                exact step_shut (wanted_shut rfl rfl d55 (by decide)) ⟨EqV.self rfl, hJ⟩
              · have d55 := hD.out 23 55 (by simp [hdep]) rfl
                rw [show vals 23 = .bool false from (hV 23 (by simp [hdep])).of rfl] at d55
                have d62 := hD.out 30 62 (by simp [hdep]) rfl
                rw [show vals 30 = undef from (hV 30 (by simp [hdep])).of rfl] at d62
                exact step_run rfl (v := .bool false) (w' := w3) (by go_simp) ⟨EqV.self rfl, hJ⟩
              · have d63 := hD.out 31 63 (by simp [hdep]) rfl
                rw [show vals 31 = .bool false from (hV 31 (by simp [hdep])).of rfl] at d63
                exact step_run rfl (v := .bool false) (w' := w3) (by go_simp) ⟨EqV.self rfl, hJ⟩
            · intro vals w3 hJ hV
              have e0 : vals 0 = .pointer (some ⟨gb, 0, none⟩) := (hV 0 (by decide)).of rfl
              have e1 : vals 1 = .pointer (some ⟨gn, 0, none⟩) := (hV 1 (by decide)).of rfl
              have e2 : vals 2 = .pointer (some ⟨gn, 0, none⟩) := (hV 2 (by decide)).of rfl
              have e3 : vals 3 = .pointer (some ⟨gn, 2, none⟩) := (hV 3 (by decide)).of rfl
              have e4 : vals 4 = .pointer (some ⟨gn, 2, none⟩) := (hV 4 (by decide)).of rfl
              have e5 : vals 5 = .pointer pl := (hV 5 (by decide)).of rfl
              have e6 : vals 6 = .int .i64 fk := (hV 6 (by decide)).of rfl
              have e7 : vals 7 = .func (.func g) #[] lb := (hV 7 (by decide)).of rfl
              have e8 : vals 8 = .bool true := (hV 8 (by decide)).of rfl
              have e9 : vals 9 = .bool true := (hV 9 (by decide)).of rfl
              have e10 : vals 10 = .func (.func g) #[] lb := (hV 10 (by decide)).of rfl
              have e11 : vals 11 = .pointer (some ⟨gn, 0, none⟩) := (hV 11 (by decide)).of rfl
              have e12 : vals 12 = .pointer (some ⟨gn, 0, none⟩) := (hV 12 (by decide)).of rfl
              have e13 : vals 13 = .pointer (some ⟨gn, 0, none⟩) := (hV 13 (by decide)).of rfl
              have e14 : vals 14 = .pointer (some ⟨gn, 0, none⟩) := (hV 14 (by decide)).of rfl
              have e15 : vals 15 = .int .i64 k := (hV 15 (by decide)).of rfl
              have e16 : vals 16 = .pointer (some ⟨gn, 0, none⟩) := (hV 16 (by decide)).of rfl
              have e17 : vals 17 = .pointer (some ⟨gn, 0, none⟩) := (hV 17 (by decide)).of rfl
              have e18 : vals 18 = .pointer (some ⟨gn, 0, none⟩) := (hV 18 (by decide)).of rfl
              have e19 : vals 19 = .pointer (some ⟨gn, 1, none⟩) := (hV 19 (by decide)).of rfl
              have e20 : vals 20 = .string v := (hV 20 (by decide)).of rfl
              have e21 : vals 21 = .bool false := (hV 21 (by decide)).of rfl
              have e22 : vals 22 = .bool false := (hV 22 (by decide)).of rfl
              have e23 : vals 23 = .bool false := (hV 23 (by decide)).of rfl
              have e24 : vals 24 = undef := (hV 24 (by decide)).of rfl
              have e25 : vals 25 = undef := (hV 25 (by decide)).of rfl
              have e26 : vals 26 = undef := (hV 26 (by decide)).of rfl
              have e27 : vals 27 = undef := (hV 27 (by decide)).of rfl
              have e28 : vals 28 = undef := (hV 28 (by decide)).of rfl
              have e29 : vals 29 = undef := (hV 29 (by decide)).of rfl
              have e30 : vals 30 = undef := (hV 30 (by decide)).of rfl
              have e31 : vals 31 = .bool false := (hV 31 (by decide)).of rfl
              have e32 : vals 32 = .bool false := (hV 32 (by decide)).of rfl
              simp only [putsL, Act.put, List.setIfInBounds_toArray, List.set_cons_zero, List.set_cons_succ, e0, e1, e2, e3, e4, e5, e6, e7, e8, e9, e10, e11, e12, e13, e14, e15, e16, e17, e18, e19, e20, e21, e22, e23, e24, e25, e26, e27, e28, e29, e30, e31, e32]
              clear e0 e1 e2 e3 e4 e5 e6 e7 e8 e9 e10 e11 e12 e13 e14 e15 e16 e17 e18 e19 e20 e21 e22 e23 e24 e25 e26 e27 e28 e29 e30 e31 e32
              have HJ3 := Lib.hid hJ
              clear hJ hV
              go_wp2_with fail
              go_ret
              exact ⟨rfl, HJ3.out⟩
        | true =>
          simp only [if_true]
          have hA2 := HA1.out rfl
          have CR2 := Lib.hid (fun w hj => CA.out s2 w hj hA2)
          clear HA1 hA2
          obtain ⟨r3, hr3⟩ : ∃ r3, runS f s2 r.list = r3 := ⟨_, rfl⟩
          rw [hr3] at CR2 ⊢
          clear hr3 CA
          obtain ⟨s3, b3⟩ := r3
          simp only at CR2 ⊢
          have hdd : decide (d < 0) = false := by simp; omega
          go_enter Try.func77, Try.ntmps77
          go_wp2_with fail
          clear hdd
          refine wp_region_mono mx (by kernel_rfl) [VP.eq (.pointer (some ⟨gb, 0, none⟩)), VP.eq (.pointer (some ⟨gb, 0, none⟩)), VP.eq (.pointer (some ⟨gb, 0, none⟩)), VP.eq (.func (.func F) #[] #[]), VP.eq (.pointer (some ⟨gn, 0, none⟩)), VP.eq (.pointer (some ⟨gn, 0, none⟩)), VP.eq (.pointer (some ⟨gn, 0, none⟩)), VP.eq (.pointer (some ⟨gn, 0, none⟩)), VP.eq (.int .i64 k), VP.eq (.int .i64 fk), VP.eq (.int .i64 d), VP.eq (.bool false)] ?_ ?_
          · intro i o L vals w2 hi hL hdep hC hJ hV
            have hlt : i < 12 := by have := (List.getElem?_eq_some_iff.1 hi).1; simpa using this
            generalize hA : frA _ _ L vals = a'
            have hT0 : a'.tmps.getD 0 undef = .pointer (some ⟨gb, 0, none⟩) := by rw [← hA, frA_base (by kernel_rfl)]; rfl
            have hT1 : a'.tmps.getD 1 undef = .pointer (some ⟨gn, 0, none⟩) := by rw [← hA, frA_base (by kernel_rfl)]; rfl
            have hT2 : a'.tmps.getD 2 undef = .int .i64 fk := by rw [← hA, frA_base (by kernel_rfl)]; rfl
            have hD := Lib.hid (fun k t (hk : L k = true) (ht : dstOf _ k = some t) => hA ▸ frA_done (by kernel_rfl) (vals := vals) hk ht)
            clear hA
            have n0 := (HNW.out.below hJ).c0
            have g0 : w2.cell? ⟨gb, 0, none⟩ = some (.func (.func F) #[] #[]) := by rw [hJ.cell (p := ⟨gb, 0, none⟩) HGL.out]; exact HG0.out
            obtain rfl | rfl | rfl | rfl | rfl | rfl | rfl | rfl | rfl | rfl | rfl | rfl : i = 0 ∨ i = 1 ∨ i = 2 ∨ i = 3 ∨ i = 4 ∨ i = 5 ∨ i = 6 ∨ i = 7 ∨ i = 8 ∨ i = 9 ∨ i = 10 ∨ i = 11 := by omega
            all_goals
              injection hi with hi
              subst hi
              try simp [Region.binds] at hdep
            · exact step_run rfl (v := .pointer (some ⟨gb, 0, none⟩)) (w' := w2) (by go_simp) ⟨rfl, Below.refl _ _⟩
            · have d11 := hD.out 0 11 (by simp [hdep]) rfl
              rw [show vals 0 = .pointer (some ⟨gb, 0, none⟩) from hV 0 (by simp [hdep])] at d11
              exact step_run rfl (v := .pointer (some ⟨gb, 0, none⟩)) (w' := w2) (by go_simp) ⟨rfl, Below.refl _ _⟩
            · have d12 := hD.out 1 12 (by simp [hdep]) rfl
              rw [show vals 1 = .pointer (some ⟨gb, 0, none⟩) from hV 1 (by simp [hdep])] at d12
              exact step_run rfl (v := .pointer (some ⟨gb, 0, none⟩)) (w' := w2) (by go_simp) ⟨rfl, Below.refl _ _⟩
            · have d13 := hD.out 2 13 (by simp [hdep]) rfl
              rw [show vals 2 = .pointer (some ⟨gb, 0, none⟩) from hV 2 (by simp [hdep])] at d13
              exact step_run rfl (v := .func (.func F) #[] #[]) (w' := w2) (by go_simp) ⟨rfl, Below.refl _ _⟩
            · exact step_run rfl (v := .pointer (some ⟨gn, 0, none⟩)) (w' := w2) (by go_simp) ⟨rfl, Below.refl _ _⟩
            · have d15 := hD.out 4 15 (by simp [hdep]) rfl
              rw [show vals 4 = .pointer (some ⟨gn, 0, none⟩) from hV 4 (by simp [hdep])] at d15
              exact step_run rfl (v := .pointer (some ⟨gn, 0, none⟩)) (w' := w2) (by go_simp) ⟨rfl, Below.refl _ _⟩
            · have d16 := hD.out 5 16 (by simp [hdep]) rfl
              rw [show vals 5 = .pointer (some ⟨gn, 0, none⟩) from hV 5 (by simp [hdep])] at d16
              exact step_run rfl (v := .pointer (some ⟨gn, 0, none⟩)) (w' := w2) (by go_simp) ⟨rfl, Below.refl _ _⟩
            · have d17 := hD.out 6 17 (by simp [hdep]) rfl
              rw [show vals 6 = .pointer (some ⟨gn, 0, none⟩) from hV 6 (by simp [hdep])] at d17
              exact step_run rfl (v := .pointer (some ⟨gn, 0, none⟩)) (w' := w2) (by go_simp) ⟨rfl, Below.refl _ _⟩
            · have d18 := hD.out 7 18 (by simp [hdep]) rfl
              rw [show vals 7 = .pointer (some ⟨gn, 0, none⟩) from hV 7 (by simp [hdep])] at d18
              exact step_run rfl (v := .int .i64 k) (w' := w2) (by go_simp) ⟨rfl, Below.refl _ _⟩
            · exact step_run rfl (v := .int .i64 fk) (w' := w2) (by go_simp) ⟨rfl, Below.refl _ _⟩
            · have d14 := hD.out 3 14 (by simp [hdep]) rfl
              rw [show vals 3 = .func (.func F) #[] #[] from hV 3 (by simp [hdep])] at d14
              have d19 := hD.out 8 19 (by simp [hdep]) rfl
              rw [show vals 8 = .int .i64 k from hV 8 (by simp [hdep])] at d19
              have d20 := hD.out 9 20 (by simp [hdep]) rfl
              rw [show vals 9 = .int .i64 fk from hV 9 (by simp [hdep])] at d20
              refine step_enter rfl (w' := w2) (by go_simp) ((CC.out w2).mono ?_)
              rintro e w1 ⟨rfl, rfl⟩
              exact ⟨_, rfl, rfl, Below.refl _ _⟩
            · have d21 := hD.out 10 21 (by simp [hdep]) rfl
              rw [show vals 10 = .int .i64 d from hV 10 (by simp [hdep])] at d21
              exact step_run rfl (v := .bool false) (w' := w2) (by go_simp; skip) ⟨rfl, Below.refl _ _⟩
          · intro vals w2 hJ hV
            have e0 : vals 0 = .pointer (some ⟨gb, 0, none⟩) := hV 0 (by decide)
            have e1 : vals 1 = .pointer (some ⟨gb, 0, none⟩) := hV 1 (by decide)
            have e2 : vals 2 = .pointer (some ⟨gb, 0, none⟩) := hV 2 (by decide)
            have e3 : vals 3 = .func (.func F) #[] #[] := hV 3 (by decide)
            have e4 : vals 4 = .pointer (some ⟨gn, 0, none⟩) := hV 4 (by decide)
            have e5 : vals 5 = .pointer (some ⟨gn, 0, none⟩) := hV 5 (by decide)
            have e6 : vals 6 = .pointer (some ⟨gn, 0, none⟩) := hV 6 (by decide)
            have e7 : vals 7 = .pointer (some ⟨gn, 0, none⟩) := hV 7 (by decide)
            have e8 : vals 8 = .int .i64 k := hV 8 (by decide)
            have e9 : vals 9 = .int .i64 fk := hV 9 (by decide)
            have e10 : vals 10 = .int .i64 d := hV 10 (by decide)
            have e11 : vals 11 = .bool false := hV 11 (by decide)
            simp only [putsL, Act.put, List.setIfInBounds_toArray, List.set_cons_zero, List.set_cons_succ, e0, e1, e2, e3, e4, e5, e6, e7, e8, e9, e10, e11]
            clear e0 e1 e2 e3 e4 e5 e6 e7 e8 e9 e10 e11
            have HJ2 := Lib.hid (HS.out.hb _ _ _ HJ.out hJ)
            have HN2 := Lib.hid (HNW.out.below hJ)
            clear hJ hV HGL HG0 HNW HJ
            go_wp2_with fail
            refine wp_region_state mx (by kernel_rfl) [some (.pointer (some ⟨gb, 0, none⟩)), some (.pointer (some ⟨gn, 0, none⟩)), some (.pointer (some ⟨gn, 0, none⟩)), some (.pointer (some ⟨gn, 2, none⟩)), some (.pointer (some ⟨gn, 2, none⟩)), some (.pointer pl), some (.int .i64 fk), some (.func (.func g) #[] lb), some (.bool true), some (.bool true), some (.func (.func g) #[] lb), some (.pointer (some ⟨gn, 0, none⟩)), some (.pointer (some ⟨gn, 0, none⟩)), some (.pointer (some ⟨gn, 0, none⟩)), some (.pointer (some ⟨gn, 0, none⟩)), some (.int .i64 k), some (.pointer (some ⟨gn, 0, none⟩)), some (.pointer (some ⟨gn, 0, none⟩)), some (.pointer (some ⟨gn, 0, none⟩)), some (.pointer (some ⟨gn, 1, none⟩)), some (.string v), some (.bool true), some (.bool true), some (.bool true), some (.pointer (some ⟨gn, 0, none⟩)), some (.pointer (some ⟨gn, 0, none⟩)), some (.pointer (some ⟨gn, 2, none⟩)), some (.pointer (some ⟨gn, 3, none⟩)), some (.pointer pr), some (.func (.func g) #[] lb), some (.bool b3), some (.bool b3), some (.bool b3)] (fun L x => J (bif L 30 then s3 else bif L 21 then s2 else bif L 8 then s1 else s) x) (HS.out.hb _ _ _ HJ2.out (Below.refl _ _).drew) ?_ ?_
            · intro i o L vals w3 hi hL hdep hC hJ hV
              have hlt : i < 33 := by have := (List.getElem?_eq_some_iff.1 hi).1; simpa using this
              generalize hA : frA _ _ L vals = a'
              have hT0 : a'.tmps.getD 0 undef = .pointer (some ⟨gb, 0, none⟩) := by rw [← hA, frA_base (by kernel_rfl)]; rfl
              have hT1 : a'.tmps.getD 1 undef = .pointer (some ⟨gn, 0, none⟩) := by rw [← hA, frA_base (by kernel_rfl)]; rfl
              have hT2 : a'.tmps.getD 2 undef = .int .i64 fk := by rw [← hA, frA_base (by kernel_rfl)]; rfl
              have hT3 : a'.tmps.getD 3 undef = .func (.func g) #[] lb := by rw [← hA, frA_base (by kernel_rfl)]; rfl
              have hD := Lib.hid (fun k t (hk : L k = true) (ht : dstOf _ k = some t) => hA ▸ frA_done (by kernel_rfl) (vals := vals) hk ht)
              clear hA
              have hN2 := HN.out.keep (HS.out.hz _ _ hJ) (HS.out.hk _ _ hJ)
              have n0 := hN2.c0
              have n1 := hN2.c1
              have n2 := hN2.c2
              have n3 := hN2.c3
              clear hN2
              obtain rfl | rfl | rfl | rfl | rfl | rfl | rfl | rfl | rfl | rfl | rfl | rfl | rfl | rfl | rfl | rfl | rfl | rfl | rfl | rfl | rfl | rfl | rfl | rfl | rfl | rfl | rfl | rfl | rfl | rfl | rfl | rfl | rfl : i = 0 ∨ i = 1 ∨ i = 2 ∨ i = 3 ∨ i = 4 ∨ i = 5 ∨ i = 6 ∨ i = 7 ∨ i = 8 ∨ i = 9 ∨ i = 10 ∨ i = 11 ∨ i = 12 ∨ i = 13 ∨ i = 14 ∨ i = 15 ∨ i = 16 ∨ i = 17 ∨ i = 18 ∨ i = 19 ∨ i = 20 ∨ i = 21 ∨ i = 22 ∨ i = 23 ∨ i = 24 ∨ i = 25 ∨ i = 26 ∨ i = 27 ∨ i = 28 ∨ i = 29 ∨ i = 30 ∨ i = 31 ∨ i = 32 := by omega
              all_goals
                injection hi with hi
                subst hi
                try simp [Region.binds] at hdep
              · exact step_run rfl (v := .pointer (some ⟨gb, 0, none⟩)) (w' := w3) (by go_simp) ⟨EqV.self rfl, hJ⟩
              · exact step_run rfl (v := .pointer (some ⟨gn, 0, none⟩)) (w' := w3) (by go_simp) ⟨EqV.self rfl, hJ⟩
              · have d33 := hD.out 1 33 (by simp [hdep]) rfl
                rw [show vals 1 = .pointer (some ⟨gn, 0, none⟩) from (hV 1 (by simp [hdep])).of rfl] at d33
                exact step_run rfl (v := .pointer (some ⟨gn, 0, none⟩)) (w' := w3) (by go_simp) ⟨EqV.self rfl, hJ⟩
              · have d34 := hD.out 2 34 (by simp [hdep]) rfl
                rw [show vals 2 = .pointer (some ⟨gn, 0, none⟩) from (hV 2 (by simp [hdep])).of rfl] at d34
                exact step_run rfl (v := .pointer (some ⟨gn, 2, none⟩)) (w' := w3) (by go_simp) ⟨EqV.self rfl, hJ⟩
              · have d35 := hD.out 3 35 (by simp [hdep]) rfl
                rw [show vals 3 = .pointer (some ⟨gn, 2, none⟩) from (hV 3 (by simp [hdep])).of rfl] at d35
                exact step_run rfl (v := .pointer (some ⟨gn, 2, none⟩)) (w' := w3) (by go_simp) ⟨EqV.self rfl, hJ⟩
              · have d36 := hD.out 4 36 (by simp [hdep]) rfl
                rw [show vals 4 = .pointer (some ⟨gn, 2, none⟩) from (hV 4 (by simp [hdep])).of rfl] at d36
                exact step_run rfl (v := .pointer pl) (w' := w3) (by go_simp) ⟨EqV.self rfl, hJ⟩
              · exact step_run rfl (v := .int .i64 fk) (w' := w3) (by go_simp) ⟨EqV.self rfl, hJ⟩
              · exact step_run rfl (v := .func (.func g) #[] lb) (w' := w3) (by go_simp) ⟨EqV.self rfl, hJ⟩
              · have d32 := hD.out 0 32 (by simp [hdep]) rfl
                rw [show vals 0 = .pointer (some ⟨gb, 0, none⟩) from (hV 0 (by simp [hdep])).of rfl] at d32
                have d37 := hD.out 5 37 (by simp [hdep]) rfl
                rw [show vals 5 = .pointer pl from (hV 5 (by simp [hdep])).of rfl] at d37
                have d38 := hD.out 6 38 (by simp [hdep]) rfl
                rw [show vals 6 = .int .i64 fk from (hV 6 (by simp [hdep])).of rfl] at d38
                have d39 := hD.out 7 39 (by simp [hdep]) rfl
                rw [show vals 7 = .func (.func g) #[] lb from (hV 7 (by simp [hdep])).of rfl] at d39
                have hno21 : L 21 = false := by
                  cases h : L 21 with
                  | false => rfl
                  | true => exact absurd (hC.path [21, 9, 8] (by kernel_rfl) 21 rfl h 8 rfl) (by simp [hL])
                have hno30 : L 30 = false := by
                  cases h : L 30 with
                  | false => rfl
                  | true => exact absurd (hC.path [30, 23, 22, 9, 8] (by kernel_rfl) 30 rfl h 8 rfl) (by simp [hL])
                refine step_enter rfl (w' := w3) (by go_simp) ((CL.out w3 (by simpa [hL, hno21, hno30] using hJ)).mono ?_)
                rintro e w1 ⟨rfl, hj1⟩
                exact ⟨_, rfl, EqV.self rfl, by simpa [updL, hno21, hno30] using hj1⟩
              · have d40 := hD.out 8 40 (by simp [hdep]) rfl
                rw [show vals 8 = .bool true from (hV 8 (by simp [hdep])).of rfl] at d40
                exact step_run rfl (v := .bool true) (w' := w3) (by go_simp) ⟨EqV.self rfl, hJ⟩
              · have d41 := hD.out 9 41 (by simp [hdep]) rfl
                rw [show vals 9 = .bool true from (hV 9 (by simp [hdep])).of rfl] at d41
                exact step_run' (wanted_open rfl rfl d41) (v := .func (.func g) #[] lb) (w' := w3) (by go_simp) ⟨EqV.self rfl, hJ⟩
              · have d41 := hD.out 9 41 (by simp [hdep]) rfl
                rw [show vals 9 = .bool true from (hV 9 (by simp [hdep])).of rfl] at d41
                exact step_run' (wanted_open rfl rfl d41) (v := .pointer (some ⟨gn, 0, none⟩)) (w' := w3) (by go_simp) ⟨EqV.self rfl, hJ⟩
              · have d43 := hD.out 11 43 (by simp [hdep]) rfl
                rw [show vals 11 = .pointer (some ⟨gn, 0, none⟩) from (hV 11 (by simp [hdep])).of rfl] at d43
                have d41 := hD.out 9 41 (by simp [hdep]) rfl
                rw [show vals 9 = .bool true from (hV 9 (by simp [hdep])).of rfl] at d41
                exact step_run' (wanted_open rfl rfl d41) (v := .pointer (some ⟨gn, 0, none⟩)) (w' := w3) (by go_simp) ⟨EqV.self rfl, hJ⟩
              · have d44 := hD.out 12 44 (by simp [hdep]) rfl
                rw [show vals 12 = .pointer (some ⟨gn, 0, none⟩) from (hV 12 (by simp [hdep])).of rfl] at d44
                have d41 := hD.out 9 41 (by simp [hdep]) rfl
                rw [show vals 9 = .bool true from (hV 9 (by simp [hdep])).of rfl] at d41
                exact step_run' (wanted_open rfl rfl d41) (v := .pointer (some ⟨gn, 0, none⟩)) (w' := w3) (by go_simp) ⟨EqV.self rfl, hJ⟩
              · have d45 := hD.out 13 45 (by simp [hdep]) rfl
                rw [show vals 13 = .pointer (some ⟨gn, 0, none⟩) from (hV 13 (by simp [hdep])).of rfl] at d45
                have d41 := hD.out 9 41 (by simp [hdep]) rfl
                rw [show vals 9 = .bool true from (hV 9 (by simp [hdep])).of rfl] at d41
                exact step_run' (wanted_open rfl rfl d41) (v := .pointer (some ⟨gn, 0, none⟩)) (w' := w3) (by go_simp) ⟨EqV.self rfl, hJ⟩
              · have d46 := hD.out 14 46 (by simp [hdep]) rfl
                rw [show vals 14 = .pointer (some ⟨gn, 0, none⟩) from (hV 14 (by simp [hdep])).of rfl] at d46
                have d41 := hD.out 9 41 (by simp [hdep]) rfl
                rw [show vals 9 = .bool true from (hV 9 (by simp [hdep])).of rfl] at d41
                exact step_run' (wanted_open rfl rfl d41) (v := .int .i64 k) (w' := w3) (by go_simp) ⟨EqV.self rfl, hJ⟩
              · have d41 := hD.out 9 41 (by simp [hdep]) rfl
                rw [show vals 9 = .bool true from (hV 9 (by simp [hdep])).of rfl] at d41
                exact step_run' (wanted_open rfl rfl d41) (v := .pointer (some ⟨gn, 0, none⟩)) (w' := w3) (by go_simp) ⟨EqV.self rfl, hJ⟩
              · have d48 := hD.out 16 48 (by simp [hdep]) rfl
                rw [show vals 16 = .pointer (some ⟨gn, 0, none⟩) from (hV 16 (by simp [hdep])).of rfl] at d48
                have d41 := hD.out 9 41 (by simp [hdep]) rfl
                rw [show vals 9 = .bool true from (hV 9 (by simp [hdep])).of rfl] at d41
                exact step_run' (wanted_open rfl rfl d41) (v := .pointer (some ⟨gn, 0, none⟩)) (w' := w3) (by go_simp) ⟨EqV.self rfl, hJ⟩
              · have d49 := hD.out 17 49 (by simp [hdep]) rfl
                rw [show vals 17 = .pointer (some ⟨gn, 0, none⟩) from (hV 17 (by simp [hdep])).of rfl] at d49
                have d41 := hD.out 9 41 (by simp [hdep]) rfl
                rw [show vals 9 = .bool true from (hV 9 (by simp [hdep])).of rfl] at d41
                exact step_run' (wanted_open rfl rfl d41) (v := .pointer (some ⟨gn, 0, none⟩)) (w' := w3) (by go_simp) ⟨EqV.self rfl, hJ⟩
              · have d50 := hD.out 18 50 (by simp [hdep]) rfl
                rw [show vals 18 = .pointer (some ⟨gn, 0, none⟩) from (hV 18 (by simp [hdep])).of rfl] at d50
                have d41 := hD.out 9 41 (by simp [hdep]) rfl
                rw [show vals 9 = .bool true from (hV 9 (by simp [hdep])).of rfl] at d41
                exact step_run' (wanted_open rfl rfl d41) (v := .pointer (some ⟨gn, 1, none⟩)) (w' := w3) (by go_simp) ⟨EqV.self rfl, hJ⟩
              · have d51 := hD.out 19 51 (by simp [hdep]) rfl
                rw [show vals 19 = .pointer (some ⟨gn, 1, none⟩) from (hV 19 (by simp [hdep])).of rfl] at d51
                have d41 := hD.out 9 41 (by simp [hdep]) rfl
                rw [show vals 9 = .bool true from (hV 9 (by simp [hdep])).of rfl] at d41
                exact step_run' (wanted_open rfl rfl d41) (v := .string v) (w' := w3) (by go_simp) ⟨EqV.self rfl, hJ⟩
              · have d42 := hD.out 10 42 (by simp [hdep]) rfl
                rw [show vals 10 = .func (.func g) #[] lb from (hV 10 (by simp [hdep])).of rfl] at d42
                have d47 := hD.out 15 47 (by simp [hdep]) rfl
                rw [show vals 15 = .int .i64 k from (hV 15 (by simp [hdep])).of rfl] at d47
                have d52 := hD.out 20 52 (by simp [hdep]) rfl
                rw [show vals 20 = .string v from (hV 20 (by simp [hdep])).of rfl] at d52
                have d41 := hD.out 9 41 (by simp [hdep]) rfl
                rw [show vals 9 = .bool true from (hV 9 (by simp [hdep])).of rfl] at d41
                have hno30 : L 30 = false := by
                  cases h : L 30 with
                  | false => rfl
                  | true => exact absurd (hC.path [30, 23, 22, 21] (by kernel_rfl) 30 rfl h 21 rfl) (by simp [hL])
                have hd8 : L 8 = true := hC.path [9, 8] (by kernel_rfl) 9 rfl (by simp [hdep]) 8 rfl
                refine step_enter' (wanted_open rfl rfl d41) (w' := w3) (by go_simp) ((CS1.out w3 (by simpa [hL, hd8, hno30] using hJ)).mono ?_)
                rintro e w1 ⟨rfl, hj1⟩
                exact ⟨_, rfl, EqV.self rfl, by simpa [updL, hno30] using hj1⟩
              · have d41 := hD.out 9 41 (by simp [hdep]) rfl
                rw [show vals 9 = .bool true from (hV 9 (by simp [hdep])).of rfl] at d41
                have d53 := hD.out 21 53 (by simp [hdep]) rfl
                rw [show vals 21 = .bool true from (hV 21 (by simp [hdep])).of rfl] at d53
                exact step_run rfl (v := .bool true) (w' := w3) (by go_simp) ⟨EqV.self rfl, hJ⟩
              · have d54 := hD.out 22 54 (by simp [hdep]) rfl
                rw [show vals 22 = .bool true from (hV 22 (by simp [hdep])).of rfl] at d54
                exact step_run rfl (v := .bool true) (w' := w3) (by go_simp) ⟨EqV.self rfl, hJ⟩
              · have d55 := hD.out 23 55 (by simp [hdep]) rfl
                rw [show vals 23 = .bool true from (hV 23 (by simp [hdep])).of rfl] at d55
                exact step_run' (wanted_open rfl rfl d55) (v := .pointer (some ⟨gn, 0, none⟩)) (w' := w3) (by go_simp) ⟨EqV.self rfl, hJ⟩
              · have d56 := hD.out 24 56 (by simp [hdep]) rfl
                rw [show vals 24 = .pointer (some ⟨gn, 0, none⟩) from (hV 24 (by simp [hdep])).of rfl] at d56
                have d55 := hD.out 23 55 (by simp [hdep]) rfl
                rw [show vals 23 = .bool true from (hV 23 (by simp [hdep])).of rfl] at d55
                exact step_run' (wanted_open rfl rfl d55) (v := .pointer (some ⟨gn, 0, none⟩)) (w' := w3) (by go_simp) ⟨EqV.self rfl, hJ⟩
              · have d57 := hD.out 25 57 (by simp [hdep]) rfl
                rw [show vals 25 = .pointer (some ⟨gn, 0, none⟩) from (hV 25 (by simp [hdep])).of rfl] at d57
                have d55 := hD.out 23 55 (by simp [hdep]) rfl
                rw [show vals 23 = .bool true from (hV 23 (by simp [hdep])).of rfl] at d55
                exact step_run' (wanted_open rfl rfl d55) (v := .pointer (some ⟨gn, 2, none⟩)) (w' := w3) (by go_simp) ⟨EqV.self rfl, hJ⟩
              · have d58 := hD.out 26 58 (by simp [hdep]) rfl
                rw [show vals 26 = .pointer (some ⟨gn, 2, none⟩) from (hV 26 (by simp [hdep])).of rfl] at d58
                have d55 := hD.out 23 55 (by simp [hdep]) rfl
                rw [show vals 23 = .bool true from (hV 23 (by simp [hdep])).of rfl] at d55
                exact step_run' (wanted_open rfl rfl d55) (v := .pointer (some ⟨gn, 3, none⟩)) (w' := w3) (by go_simp) ⟨EqV.self rfl, hJ⟩
              · have d59 := hD.out 27 59 (by simp [hdep]) rfl
                rw [show vals 27 = .pointer (some ⟨gn, 3, none⟩) from (hV 27 (by simp [hdep])).of rfl] at d59
                have d55 := hD.out 23 55 (by simp [hdep]) rfl
                rw [show vals 23 = .bool true from (hV 23 (by simp [hdep])).of rfl] at d55
                exact step_run' (wanted_open rfl rfl d55) (v := .pointer pr) (w' := w3) (by go_simp) ⟨EqV.self rfl, hJ⟩
              · have d55 := hD.out 23 55 (by simp [hdep]) rfl
                rw [show vals 23 = .bool true from (hV 23 (by simp [hdep])).of rfl] at d55
                exact step_run' (wanted_open rfl rfl d55) (v := .func (.func g) #[] lb) (w' := w3) (by go_simp) ⟨EqV.self rfl, hJ⟩
              · have d60 := hD.out 28 60 (by simp [hdep]) rfl
                rw [show vals 28 = .pointer pr from (hV 28 (by simp [hdep])).of rfl] at d60
                have d61 := hD.out 29 61 (by simp [hdep]) rfl
                rw [show vals 29 = .func (.func g) #[] lb from (hV 29 (by simp [hdep])).of rfl] at d61
                have d55 := hD.out 23 55 (by simp [hdep]) rfl
                rw [show vals 23 = .bool true from (hV 23 (by simp [hdep])).of rfl] at d55
                have hd21 : L 21 = true := hC.path [23, 22, 21] (by kernel_rfl) 23 rfl (by simp [hdep]) 21 rfl
                refine step_enter' (wanted_open rfl rfl d55) (w' := w3) (by go_simp) ((CR2.out w3 (by simpa [hL, hd21] using hJ)).mono ?_)
                rintro e w1 ⟨rfl, hj1⟩
                exact ⟨_, rfl, EqV.self rfl, by simpa [updL] using hj1⟩
              · have d55 := hD.out 23 55 (by simp [hdep]) rfl
                rw [show vals 23 = .bool true from (hV 23 (by simp [hdep])).of rfl] at d55
                have d62 := hD.out 30 62 (by simp [hdep]) rfl
                rw [show vals 30 = .bool b3 from (hV 30 (by simp [hdep])).of rfl] at d62
                exact step_run rfl (v := .bool b3) (w' := w3) (by go_simp) ⟨EqV.self rfl, hJ⟩
              · have d63 := hD.out 31 63 (by simp [hdep]) rfl
                rw [show vals 31 = .bool b3 from (hV 31 (by simp [hdep])).of rfl] at d63
                exact step_run rfl (v := .bool b3) (w' := w3) (by go_simp) ⟨EqV.self rfl, hJ⟩
            · intro vals w3 hJ hV
              have e0 : vals 0 = .pointer (some ⟨gb, 0, none⟩) := (hV 0 (by decide)).of rfl
              have e1 : vals 1 = .pointer (some ⟨gn, 0, none⟩) := (hV 1 (by decide)).of rfl
              have e2 : vals 2 = .pointer (some ⟨gn, 0, none⟩) := (hV 2 (by decide)).of rfl
              have e3 : vals 3 = .pointer (some ⟨gn, 2, none⟩) := (hV 3 (by decide)).of rfl
              have e4 : vals 4 = .pointer (some ⟨gn, 2, none⟩) := (hV 4 (by decide)).of rfl
              have e5 : vals 5 = .pointer pl := (hV 5 (by decide)).of rfl
              have e6 : vals 6 = .int .i64 fk := (hV 6 (by decide)).of rfl
              have e7 : vals 7 = .func (.func g) #[] lb := (hV 7 (by decide)).of rfl
              have e8 : vals 8 = .bool true := (hV 8 (by decide)).of rfl
              have e9 : vals 9 = .bool true := (hV 9 (by decide)).of rfl
              have e10 : vals 10 = .func (.func g) #[] lb := (hV 10 (by decide)).of rfl
              have e11 : vals 11 = .pointer (some ⟨gn, 0, none⟩) := (hV 11 (by decide)).of rfl
              have e12 : vals 12 = .pointer (some ⟨gn, 0, none⟩) := (hV 12 (by decide)).of rfl
              have e13 : vals 13 = .pointer (some ⟨gn, 0, none⟩) := (hV 13 (by decide)).of rfl
              have e14 : vals 14 = .pointer (some ⟨gn, 0, none⟩) := (hV 14 (by decide)).of rfl
              have e15 : vals 15 = .int .i64 k := (hV 15 (by decide)).of rfl
              have e16 : vals 16 = .pointer (some ⟨gn, 0, none⟩) := (hV 16 (by decide)).of rfl
              have e17 : vals 17 = .pointer (some ⟨gn, 0, none⟩) := (hV 17 (by decide)).of rfl
              have e18 : vals 18 = .pointer (some ⟨gn, 0, none⟩) := (hV 18 (by decide)).of rfl
              have e19 : vals 19 = .pointer (some ⟨gn, 1, none⟩) := (hV 19 (by decide)).of rfl
              have e20 : vals 20 = .string v := (hV 20 (by decide)).of rfl
              have e21 : vals 21 = .bool true := (hV 21 (by decide)).of rfl
              have e22 : vals 22 = .bool true := (hV 22 (by decide)).of rfl
              have e23 : vals 23 = .bool true := (hV 23 (by decide)).of rfl
              have e24 : vals 24 = .pointer (some ⟨gn, 0, none⟩) := (hV 24 (by decide)).of rfl
              have e25 : vals 25 = .pointer (some ⟨gn, 0, none⟩) := (hV 25 (by decide)).of rfl
              have e26 : vals 26 = .pointer (some ⟨gn, 2, none⟩) := (hV 26 (by decide)).of rfl
              have e27 : vals 27 = .pointer (some ⟨gn, 3, none⟩) := (hV 27 (by decide)).of rfl
              have e28 : vals 28 = .pointer pr := (hV 28 (by decide)).of rfl
              have e29 : vals 29 = .func (.func g) #[] lb := (hV 29 (by decide)).of rfl
              have e30 : vals 30 = .bool b3 := (hV 30 (by decide)).of rfl
              have e31 : vals 31 = .bool b3 := (hV 31 (by decide)).of rfl
              have e32 : vals 32 = .bool b3 := (hV 32 (by decide)).of rfl
              simp only [putsL, Act.put, List.setIfInBounds_toArray, List.set_cons_zero, List.set_cons_succ, e0, e1, e2, e3, e4, e5, e6, e7, e8, e9, e10, e11, e12, e13, e14, e15, e16, e17, e18, e19, e20, e21, e22, e23, e24, e25, e26, e27, e28, e29, e30, e31, e32]
              clear e0 e1 e2 e3 e4 e5 e6 e7 e8 e9 e10 e11 e12 e13 e14 e15 e16 e17 e18 e19 e20 e21 e22 e23 e24 e25 e26 e27 e28 e29 e30 e31 e32
              have HJ3 := Lib.hid hJ
              clear hJ hV
              go_wp2_with fail
              go_ret
              exact ⟨rfl, HJ3.out⟩
end Go.Proofs.Ytaghflionakhhaa
