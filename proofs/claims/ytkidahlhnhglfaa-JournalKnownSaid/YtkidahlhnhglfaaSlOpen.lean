/-
  Layer seal: Open.
-/
import Derived.Test.YtkidahlhnhglfaaSlClone
namespace Go.Proofs.Ytkidahlhnhglfaa
open Go.RowKit Go.Gz

def RetOp (w : World) (l : List UInt8) (e : Ending) (w' : World) : Prop :=
  Below w.heap.size w w' ∧ ((errL l ≠ 0 ∧ e = .returned (.tuple #[.int .u8 0, .slice none 0 0, .int .i64 0, .int .i64 (errL l)])) ∨
    (errL l = 0 ∧ ∃ v, e = .returned (.tuple #[.int .u8 (kindL l).toNat, v, .int .i64 ((7 + manyL l : Nat) : Int), .int .i64 0]) ∧ Own w' w.heap.size 5 .u8 v (nums (dataL l))))

theorem dataL_len {l : List UInt8} (h : errL l = 0) : (dataL l).length = manyL l := by
  have := errL_room h
  unfold dataL
  rw [List.length_take, List.length_drop]; omega

set_option maxHeartbeats 4000000 in
set_option maxRecDepth 1000000 in
theorem open_any (l : List UInt8) (hl : l.length ≤ 1000000) (p : Option Addr) (cap : Nat) (w : World) (hp : Row w .u8 p (nums l)) (hcap : l.length ≤ cap) :
    Calls Try.prog 66 #[.slice p l.length cap] w (RetOp w l) := by
  have mx := mixedSl
  have C1 := Lib.hid (first_any l hl p cap w hp hcap)
  clear hp hcap
  have HL := Lib.hid hl
  go_enter Try.func66, Try.ntmps66
  clear hl
  go_wp2_with fail
  refine C1.out.mono ?_
  rintro e w1 ⟨hb1, ⟨he, rfl⟩ | ⟨he, q, d, rfl, hrow, hmd, hqd⟩⟩
  · have HB1 := Lib.hid (hb1.alloc hb1.size (.cells #[.int .u8 0, .slice none 0 0] 133))
    have HF := Lib.hid (show ∀ w', Below w.heap.size w w' → RetOp w l (.returned (.tuple #[.int .u8 0, .slice none 0 0, .int .i64 0, .int .i64 (errL l)])) w' from fun w' hb => ⟨hb, Or.inl ⟨he, rfl⟩⟩)
    obtain ⟨E, hE⟩ : ∃ E, errL l = E := ⟨_, rfl⟩
    rw [hE] at he HF ⊢
    have hez : ((E : Int) != 0) = true := by simp; omega
    clear hE he hb1 C1
    go_wp2_with fail
    refine bodyPost_ret (v := .tuple #[.int .u8 0, .slice none 0 0, .int .i64 0, .int .i64 E]) (by simp [results, Try.results66, go_sem]) rfl (HF.out _ HB1.out)
  · have hroom := errL_room he
    have HDL := Lib.hid (dataL_len he)
    have HF := Lib.hid (show ∀ v w', Own w' w.heap.size 5 .u8 v (nums (dataL l)) → Below w.heap.size w w' → RetOp w l (.returned (.tuple #[.int .u8 (kindL l).toNat, v, .int .i64 ((7 + manyL l : Nat) : Int), .int .i64 0])) w' from fun v w' h hb => ⟨hb, Or.inr ⟨he, v, rfl, h⟩⟩)
    obtain ⟨m, hm⟩ : ∃ m, manyL l = m := ⟨_, rfl⟩
    obtain ⟨K, hK⟩ : ∃ K, kindL l = K := ⟨_, rfl⟩
    obtain ⟨D, hD⟩ : ∃ D, dataL l = D := ⟨_, rfl⟩
    rw [hm] at hroom HDL HF hmd ⊢
    rw [hK] at HF ⊢
    rw [hD] at hrow HF HDL
    clear hm hK hD he
    obtain ⟨w2, hw2⟩ : ∃ w2, w1.alloc (.cells #[.int .u8 K.toNat, .slice q m d] 133) = w2 := ⟨_, rfl⟩
    have hb12 : Below w1.heap.size w1 w2 := hw2 ▸ (Below.refl _ _).alloc (Nat.le_refl _) _
    have HZ2 := Lib.hid (show w2.heap.size = w1.heap.size + 1 by rw [← hw2]; simp)
    have k0 : w2.cell? ⟨w1.heap.size, 0, none⟩ = some (.int .u8 K.toNat) := by rw [← hw2]; simp [go_sem]
    have k1 : w2.cell? ⟨w1.heap.size, 1, none⟩ = some (.slice q m d) := by rw [← hw2]; simp [go_sem]
    have HK0 := Lib.hid k0
    have HK1 := Lib.hid k1
    have HB2 := Lib.hid (hb1.trans (hb12.mono hb1.size))
    have HR := Lib.hid (show ∀ x, Below w2.heap.size w2 x → Row x .u8 q (nums D) from fun x hx => (hrow.below hb12).below hx)
    have HQ := Lib.hid (And.intro (And.intro hroom.1 hroom.2) (And.intro hmd hqd))
    clear hrow hb12 hb1 k0 k1 hmd hqd hroom C1
    go_wp2_with fail
    refine wp_region_mono mx (by kernel_rfl) [VP.eq (.pointer (some ⟨w1.heap.size, 0, none⟩)), VP.eq (.int .u8 K.toNat), VP.eq (.pointer (some ⟨w1.heap.size, 1, none⟩)), VP.eq (.slice q m d), ownVP w.heap.size D, VP.eq (.agg #[.int .u8 K.toNat, .slice q m d]), VP.eq (.int .i64 ((7 + m : Nat) : Int)), VP.eq (.int .u8 K.toNat), ownVP w.heap.size D, VP.eq (.int .i64 ((7 + m : Nat) : Int)), VP.eq (.int .i64 0)] ?_ ?_
    · intro i o L vals w' hi hL hdep hC hJ hV
      have hlt : i < 11 := by have := (List.getElem?_eq_some_iff.1 hi).1; simpa using this
      generalize hA : frA _ _ L vals = a'
      have hT6 : a'.tmps.getD 6 undef = .pointer (some ⟨w1.heap.size, 0, none⟩) := by rw [← hA, frA_base (by kernel_rfl)]; rfl
      have hD := Lib.hid (fun k t (hk : L k = true) (ht : dstOf _ k = some t) => hA ▸ frA_done (by kernel_rfl) (vals := vals) hk ht)
      clear hA
      have c0 : w'.cell? ⟨w1.heap.size, 0, none⟩ = some (.int .u8 K.toNat) := by rw [hJ.cell (p := ⟨w1.heap.size, 0, none⟩) (by have := HZ2.out; show w1.heap.size < _; omega)]; exact HK0.out
      have c1 : w'.cell? ⟨w1.heap.size, 1, none⟩ = some (.slice q m d) := by rw [hJ.cell (p := ⟨w1.heap.size, 1, none⟩) (by have := HZ2.out; show w1.heap.size < _; omega)]; exact HK1.out
      obtain rfl | rfl | rfl | rfl | rfl | rfl | rfl | rfl | rfl | rfl | rfl : i = 0 ∨ i = 1 ∨ i = 2 ∨ i = 3 ∨ i = 4 ∨ i = 5 ∨ i = 6 ∨ i = 7 ∨ i = 8 ∨ i = 9 ∨ i = 10 := by omega
      all_goals
        injection hi with hi
        subst hi
        try simp [Region.binds] at hdep
      · exact step_run rfl (v := .pointer (some ⟨w1.heap.size, 0, none⟩)) (w' := w') (by go_simp) ⟨rfl, Below.refl _ _⟩
      · have d16 := hD.out 0 16 (by simp [hdep]) rfl
        rw [show vals 0 = .pointer (some ⟨w1.heap.size, 0, none⟩) from hV 0 (by simp [hdep])] at d16
        exact step_run rfl (v := .int .u8 K.toNat) (w' := w') (by go_simp) ⟨rfl, Below.refl _ _⟩
      · exact step_run rfl (v := .pointer (some ⟨w1.heap.size, 1, none⟩)) (w' := w') (by go_simp) ⟨rfl, Below.refl _ _⟩
      · have d18 := hD.out 2 18 (by simp [hdep]) rfl
        rw [show vals 2 = .pointer (some ⟨w1.heap.size, 1, none⟩) from hV 2 (by simp [hdep])] at d18
        exact step_run rfl (v := .slice q m d) (w' := w') (by go_simp) ⟨rfl, Below.refl _ _⟩
      · have d19 := hD.out 3 19 (by simp [hdep]) rfl
        rw [show vals 3 = .slice q m d from hV 3 (by simp [hdep])] at d19
        have CC := clone_any D (by rw [HDL.out]; have := HQ.out.1.2; omega) q d w' (HR.out _ hJ) HQ.out.2.2
        rw [HDL.out] at CC
        refine step_enter rfl (w' := w') (by go_simp) (CC.mono ?_)
        rintro e x ⟨v, rfl, ho, hb⟩
        exact ⟨v, rfl, own_mono ho (by have := hJ.size; have := HB2.out.size; omega), hb⟩
      · exact step_run rfl (v := .agg #[.int .u8 K.toNat, .slice q m d]) (w' := w') (by go_simp) ⟨rfl, Below.refl _ _⟩
      · have d21 := hD.out 5 21 (by simp [hdep]) rfl
        rw [show vals 5 = .agg #[.int .u8 K.toNat, .slice q m d] from hV 5 (by simp [hdep])] at d21
        refine step_enter rfl (w' := w') (by go_simp) ((size_any K.toNat q m d (by have := HQ.out.1.2; omega) w').mono ?_)
        rintro e x ⟨rfl, hb⟩
        exact ⟨_, rfl, rfl, hb⟩
      · have d17 := hD.out 1 17 (by simp [hdep]) rfl
        rw [show vals 1 = .int .u8 K.toNat from hV 1 (by simp [hdep])] at d17
        exact step_run rfl (v := .int .u8 K.toNat) (w' := w') (by go_simp) ⟨rfl, Below.refl _ _⟩
      · have d20 := hD.out 4 20 (by simp [hdep]) rfl
        exact step_run rfl (v := vals 4) (w' := w') (by go_simp) ⟨hV 4 (by simp [hdep]), Below.refl _ _⟩
      · have d22 := hD.out 6 22 (by simp [hdep]) rfl
        rw [show vals 6 = .int .i64 ((7 + m : Nat) : Int) from hV 6 (by simp [hdep])] at d22
        exact step_run rfl (v := .int .i64 ((7 + m : Nat) : Int)) (w' := w') (by go_simp) ⟨rfl, Below.refl _ _⟩
      · exact step_run rfl (v := .int .i64 0) (w' := w') (by go_simp) ⟨rfl, Below.refl _ _⟩
    · intro vals w' hJ hV
      have e0 : vals 0 = .pointer (some ⟨w1.heap.size, 0, none⟩) := hV 0 (by decide)
      have e1 : vals 1 = .int .u8 K.toNat := hV 1 (by decide)
      have e2 : vals 2 = .pointer (some ⟨w1.heap.size, 1, none⟩) := hV 2 (by decide)
      have e3 : vals 3 = .slice q m d := hV 3 (by decide)
      have q4 := hV 4 (by decide)
      have e5 : vals 5 = .agg #[.int .u8 K.toNat, .slice q m d] := hV 5 (by decide)
      have e6 : vals 6 = .int .i64 ((7 + m : Nat) : Int) := hV 6 (by decide)
      have e7 : vals 7 = .int .u8 K.toNat := hV 7 (by decide)
      have q8 := hV 8 (by decide)
      have e9 : vals 9 = .int .i64 ((7 + m : Nat) : Int) := hV 9 (by decide)
      have e10 : vals 10 = .int .i64 0 := hV 10 (by decide)
      simp only [putsL, Act.put, List.setIfInBounds_toArray, List.set_cons_zero, List.set_cons_succ, e0, e1, e2, e3, e5, e6, e7, e9, e10]
      clear e0 e1 e2 e3 e5 e6 e7 e9 e10
      have HBx := Lib.hid (HB2.out.trans (hJ.mono HB2.out.size))
      have HFx := Lib.hid (HF.out _ _ q8 HBx.out)
      clear hJ hV q4 q8
      generalize vals 8 = v8 at *
      generalize vals 4 = v4 at *
      go_wp2_with fail
      refine bodyPost_ret (v := .tuple #[.int .u8 K.toNat, v8, .int .i64 ((7 + m : Nat) : Int), .int .i64 0]) (by simp [results, Try.results66, go_sem]) rfl HFx.out
end Go.Proofs.Ytkidahlhnhglfaa
