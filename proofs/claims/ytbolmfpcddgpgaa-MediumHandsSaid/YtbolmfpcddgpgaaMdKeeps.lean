/-
  MediumKeeps: the walk.
-/
import Derived.Test.YtbolmfpcddgpgaaMdAwake
namespace Go.Proofs.Ytbolmfpcddgpgaa
open Go.RowKit Go.Gz

/-- a row that may be written: its cells are numbers. -/
def Mut (w : World) (q : Option Addr) (n g : Nat) : Prop := n = 0 ∨ (q = some ⟨g, 0, none⟩ ∧ ∃ cs : Array Value, w.heap[g]? = some (.cells cs 5 (0, 0)) ∧ ∀ j, j < n → ∃ k : UInt8, cs[j]? = some (.int .u8 (k.toNat : Int)))
theorem Mut.of {w : World} {B : Nat} {q : Option Addr} {n d : Nat} {l : List UInt8} (h : Own w B 5 .u8 (.slice q n d) (nums l)) (hB : B ≤ w.heap.size) : ∃ g, B ≤ g ∧ Mut w q n g ∧ (n ≠ 0 → q.map (·.block) = some g) := by
  obtain ⟨q', d', he, _, _, hr⟩ := own_row h
  injection he with e1 e2 e3
  rw [nums_length] at e2
  subst e1 e2 e3
  obtain ⟨_, ⟨h2, h0⟩ | ⟨g, cap, cur, h2, hg, hh, hc, hm, hs, ht⟩⟩ := h
  · rw [nums_length] at h0
    exact ⟨w.heap.size, hB, Or.inl h0, fun h => absurd h0 h⟩
  · injection h2 with e1 e2 e3
    subst e1 e3
    refine ⟨g, hg, Or.inr ⟨rfl, cur, hh, fun j hj => ⟨l.getD j 0, ?_⟩⟩, fun _ => rfl⟩
    have := congrArg (·[j]?) ht
    simp only [nums_length, Nat.mul_one, List.getElem?_take, hj, if_true, Array.getElem?_toList, List.getElem?_map] at this
    rw [this]
    simp [nums, List.getD, hj]
theorem Mut.at {w : World} {q : Option Addr} {n g : Nat} (h : Mut w q n g) {j : Nat} (hj : j < n) : q = some ⟨g, 0, none⟩ ∧ (∃ k : UInt8, w.cell? ⟨g, j, none⟩ = some (.int .u8 (k.toNat : Int))) ∧ w.frozen? ⟨g, j, none⟩ = false := by
  rcases h with h | ⟨h, cs, hh, hc⟩
  · omega
  · obtain ⟨k, hk⟩ := hc j hj
    exact ⟨h, ⟨k, by simp only [World.cell?, hh]; exact hk⟩, by simp [World.frozen?, hh]⟩
theorem Mut.set {w : World} {q : Option Addr} {n g : Nat} (h : Mut w q n g) {j : Nat} (hj : j < n) (y : UInt8) : Mut (w.setCell ⟨g, j, none⟩ (.int .u8 (y.toNat : Int))) q n g := by
  rcases h with h | ⟨h, cs, hh, hc⟩
  · exact Or.inl h
  · refine Or.inr ⟨h, cs.setIfInBounds j (.int .u8 (y.toNat : Int)), ?_, fun i hi => ?_⟩
    · simp only [World.setCell, Array.getElem?_modify, if_true, hh, Option.map_some]
      rfl
    · obtain ⟨k, hk⟩ := hc i hi
      by_cases e : j = i
      · subst e
        have hlt : j < cs.size := (Array.getElem?_eq_some_iff.1 hk).1
        exact ⟨y, by simp [hlt]⟩
      · exact ⟨k, by rw [Array.getElem?_setIfInBounds_ne e]; exact hk⟩
theorem u8_of (k : Int) (h0 : 0 ≤ k) (h1 : k ≤ 255) : ∃ y : UInt8, k = (y.toNat : Int) := by
  refine ⟨UInt8.ofNat k.toNat, ?_⟩
  have : (UInt8.ofNat k.toNat).toNat = k.toNat := by simp; omega
  rw [this, Int.toNat_of_nonneg h0]

set_option maxHeartbeats 8000000 in
set_option maxRecDepth 1000000 in
theorem keeps_walk (a b : List UInt8) (keep : Int) (pa pb : Option Addr) (ca cb : Nat) (W : World) (ha : Row W .u8 pa (nums a)) (hb : Row W .u8 pb (nums b)) (hca : a.length ≤ ca) (hcb : b.length ≤ cb) (hpa : pa = none → ca = 0) (hpb : pb = none → cb = 0)
    (hla : a.length ≤ 9223372036854775807) (hlb : b.length ≤ 9223372036854775807) :
    Calls Try.prog 4 #[.slice pa a.length ca, .slice pb b.length cb, .int .i64 keep] W fun e w' => e = .returned (.bool true) ∧ Below W.heap.size W w' := by
  have mx := mixedMd
  have CA := Lib.hid (awake_yes W)
  obtain ⟨na, hna⟩ : ∃ n, a.length = n := ⟨_, rfl⟩
  obtain ⟨nb, hnb⟩ : ∃ n, b.length = n := ⟨_, rfl⟩
  have HN := Lib.hid (And.intro hna hnb)
  have HA := Lib.hid (And.intro ha (And.intro hpa (hna ▸ hca)))
  have HBb := Lib.hid (And.intro hb (And.intro hpb (hnb ▸ hcb)))
  have hcbz : (nb : Int) ≤ (cb : Int) := by omega
  rw [hna] at hla ⊢
  rw [hnb] at hlb ⊢
  clear ha hb hca hcb hpa hpb hna hnb
  by_cases hbig : 1000 < na
  · have hbz : (1000 : Int) < (na : Int) := by omega
    clear hla hlb
    go_enter Try.func4, Try.ntmps4
    go_wp2_with fail
    refine CA.out.mono ?_
    rintro e w1 ⟨rfl, hb1⟩
    go_wp2_with fail
    go_ret
    exact ⟨rfl, hb1⟩
  · have hbz : decide ((1000 : Int) < (na : Int)) = false := decide_eq_false (by omega)
    by_cases hbig2 : 1000 < nb
    · have hbz2 : (1000 : Int) < (nb : Int) := by omega
      clear hla hlb
      go_enter Try.func4, Try.ntmps4
      go_wp2_with fail
      refine CA.out.mono ?_
      rintro e w1 ⟨rfl, hb1⟩
      go_wp2_with fail
      go_ret
      exact ⟨rfl, hb1⟩
    · have hbz2 : decide ((1000 : Int) < (nb : Int)) = false := decide_eq_false (by omega)
      have HL := Lib.hid (show na ≤ 1000 ∧ nb ≤ 1000 from by omega)
      obtain ⟨k, hk⟩ : ∃ k : Nat, min (max keep 0) (nb : Int) = (k : Int) := ⟨(min (max keep 0) (nb : Int)).toNat, by omega⟩
      have HK := Lib.hid (show min (max keep 0) (nb : Int) = (k : Int) ∧ k ≤ nb from ⟨hk, by omega⟩)
      have hkb : (k : Int) ≤ (nb : Int) := by omega
      clear hla hlb hbig hbig2
      go_enter Try.func4, Try.ntmps4
      go_wp2_with fail
      refine CA.out.mono ?_
      rintro e w ⟨rfl, hb0⟩
      have HB0 := Lib.hid hb0
      have HZ0 := Lib.hid hb0.size
      have C0 := Lib.hid (med_new w)
      clear hb0 CA
      go_wp2_with fail
      refine C0.out.mono ?_
      rintro e w1 ⟨rfl, hm, hb⟩
      have HB1 := Lib.hid (HB0.out.trans (hb.mono HZ0.out))
      have C1 := Lib.hid (med_append hm a (by simp; have := HN.out; have := HL.out; omega) na HN.out.1 pa ca (HA.out.1.below HB1.out) HA.out.2.1)
      clear hm hb C0
      go_wp2_with fail
      refine C1.out.mono ?_
      rintro e w2 ⟨rfl, hm, hb⟩
      have HB2 := Lib.hid (HB1.out.trans (hb.mono HZ0.out))
      have C2 := Lib.hid (med_sync hm (by simp; have := HN.out; have := HL.out; omega))
      clear hm hb C1
      go_wp2_with fail
      refine C2.out.mono ?_
      rintro e w3 ⟨rfl, hm, hb⟩
      rw [List.nil_append, List.nil_append] at hm
      have HB3 := Lib.hid (HB2.out.trans (hb.mono HZ0.out))
      have C3 := Lib.hid (med_append hm b (by simp; have := HN.out; have := HL.out; omega) nb HN.out.2 pb cb (HBb.out.1.below HB3.out) HBb.out.2.1)
      clear hm hb C2
      go_wp2_with fail
      refine C3.out.mono ?_
      rintro e w4 ⟨rfl, hm, hb⟩
      rw [List.nil_append] at hm
      have HB4 := Lib.hid (HB3.out.trans (hb.mono HZ0.out))
      have C4 := Lib.hid (med_loose hm nb HN.out.2)
      have C5 := Lib.hid (med_crash hm (by have := HN.out; have := HL.out; omega) keep k (by rw [HN.out.2]; exact hk))
      clear hm hb C3
      go_wp2_with fail
      refine C4.out.mono ?_
      rintro e w5 ⟨rfl, rfl⟩
      go_wp2_with fail
      refine C5.out.mono ?_
      rintro e w5 ⟨rfl, hm, hb⟩
      have HB5 := Lib.hid (HB4.out.trans (hb.mono HZ0.out))
      have HM5 := Lib.hid hm
      clear hm hb C4 C5
      obtain ⟨X, hX⟩ : ∃ X, a ++ b.take k = X := ⟨_, rfl⟩
      have HX := Lib.hid (show X.length = na + k from by rw [← hX, List.length_append, List.length_take, HN.out.1, HN.out.2, Nat.min_eq_left HK.out.2])
      have CB := Lib.hid (fun w' (hb : Below w5.heap.size w5 w') => med_bytes (HM5.out.below hb) (by rw [hX, HX.out]; have := HL.out; have := HK.out.2; omega) (by simp) (na + k) (by rw [List.append_nil, hX, HX.out]))
      rw [List.append_nil, hX] at CB
      have CL := Lib.hid (fun w' (hb : Below w5.heap.size w5 w') => med_loose (HM5.out.below hb) 0 rfl)
      have HS := Lib.hid (fun w' (hb : Below w5.heap.size w5 w') => show (convert 28 9 (.slice pa na ca)).run Try.prog w' = .ok (.string ⟨a.toArray⟩) w' ∧ (convert 28 9 (.slice pb k cb)).run Try.prog w' = .ok (.string ⟨(b.take k).toArray⟩) w' from by
        have h1 := run_string w' a pa ca (HA.out.1.below (HB5.out.trans (hb.mono HB5.out.size)))
        have h2 := run_string w' (b.take k) pb cb (row_take (HBb.out.1.below (HB5.out.trans (hb.mono HB5.out.size))) k)
        rw [HN.out.1] at h1
        rw [List.length_take, HN.out.2, Nat.min_eq_left HK.out.2] at h2
        exact ⟨h1, h2⟩)
      have HXS := Lib.hid (show (⟨a.toArray⟩ : ByteArray) ++ ⟨(b.take k).toArray⟩ = ⟨X.toArray⟩ from by
        rw [← hX]
        apply ByteArray.ext
        simp)
      have HSZ := Lib.hid (show (⟨a.toArray⟩ : ByteArray).size = na ∧ (⟨(b.take k).toArray⟩ : ByteArray).size = k from ⟨HN.out.1, by show (b.take k).toArray.size = k; rw [List.size_toArray, List.length_take, HN.out.2, Nat.min_eq_left HK.out.2]⟩)
      go_wp2_with fail
      refine wp_region_mono mx (by kernel_rfl) [VP.eq (.pointer (some ⟨w.heap.size, 0, none⟩)), ownVP W.heap.size X, VP.eq (.string ⟨X.toArray⟩), VP.eq (.slice pa na ca), VP.eq (.string ⟨a.toArray⟩), VP.eq (.slice pb nb cb), VP.eq (.int .i64 ((k : Nat) : Int)), VP.eq (.slice pb k cb), VP.eq (.string ⟨(b.take k).toArray⟩), VP.eq (.string ⟨X.toArray⟩), VP.eq (.bool false), VP.eq (.bool false), VP.eq (.pointer (some ⟨w.heap.size, 0, none⟩)), VP.eq (.int .i64 0), VP.eq (.bool false), VP.eq (.bool false)] ?_ ?_
      · intro i o L vals w' hi hL hdep hC hJ hV
        have hlt : i < 16 := by have := (List.getElem?_eq_some_iff.1 hi).1; simpa using this
        generalize hA : frA _ _ L vals = a'
        have hT0 : a'.tmps.getD 0 undef = .slice pa na ca := by rw [← hA, frA_base (by kernel_rfl)]; rfl
        have hT1 : a'.tmps.getD 1 undef = .slice pb nb cb := by rw [← hA, frA_base (by kernel_rfl)]; rfl
        have hT7 : a'.tmps.getD 7 undef = .pointer (some ⟨w.heap.size, 0, none⟩) := by rw [← hA, frA_base (by kernel_rfl)]; rfl
        have hT8 : a'.tmps.getD 8 undef = .int .i64 ((k : Nat) : Int) := by rw [← hA, frA_base (by kernel_rfl)]; rfl
        have hD := Lib.hid (fun k t (hk : L k = true) (ht : dstOf _ k = some t) => hA ▸ frA_done (by kernel_rfl) (vals := vals) hk ht)
        clear hA
        obtain rfl | rfl | rfl | rfl | rfl | rfl | rfl | rfl | rfl | rfl | rfl | rfl | rfl | rfl | rfl | rfl : i = 0 ∨ i = 1 ∨ i = 2 ∨ i = 3 ∨ i = 4 ∨ i = 5 ∨ i = 6 ∨ i = 7 ∨ i = 8 ∨ i = 9 ∨ i = 10 ∨ i = 11 ∨ i = 12 ∨ i = 13 ∨ i = 14 ∨ i = 15 := by omega
        all_goals
          injection hi with hi
          subst hi
          try simp [Region.binds] at hdep
        · exact step_run rfl (v := .pointer (some ⟨w.heap.size, 0, none⟩)) (w' := w') (by go_simp) ⟨rfl, Below.refl _ _⟩
        · have d45 := hD.out 0 45 (by simp [hdep]) rfl
          rw [show vals 0 = .pointer (some ⟨w.heap.size, 0, none⟩) from hV 0 (by simp [hdep])] at d45
          refine step_enter rfl (w' := w') (by go_simp) ((CB.out w' hJ).mono ?_)
          rintro e x ⟨q, d, rfl, ho, -, hb⟩
          exact ⟨_, rfl, own_mono ho (by have := hJ.size; have := HB5.out.size; omega), hb⟩
        · have d46 := hD.out 1 46 (by simp [hdep]) rfl
          obtain ⟨q, d, e, hs⟩ := own_string (hV 1 (by simp [hdep])) (Below.refl _ w')
          rw [e] at d46 hs
          exact step_run rfl (v := .string ⟨X.toArray⟩) (w' := w') (by go_simp) ⟨rfl, Below.refl _ _⟩
        · exact step_run rfl (v := .slice pa na ca) (w' := w') (by go_simp) ⟨rfl, Below.refl _ _⟩
        · have d48 := hD.out 3 48 (by simp [hdep]) rfl
          rw [show vals 3 = .slice pa na ca from hV 3 (by simp [hdep])] at d48
          have hs := (HS.out w' hJ).1
          exact step_run rfl (v := .string ⟨a.toArray⟩) (w' := w') (by go_simp) ⟨rfl, Below.refl _ _⟩
        · exact step_run rfl (v := .slice pb nb cb) (w' := w') (by go_simp) ⟨rfl, Below.refl _ _⟩
        · exact step_run rfl (v := .int .i64 ((k : Nat) : Int)) (w' := w') (by go_simp) ⟨rfl, Below.refl _ _⟩
        · have d50 := hD.out 5 50 (by simp [hdep]) rfl
          rw [show vals 5 = .slice pb nb cb from hV 5 (by simp [hdep])] at d50
          have d51 := hD.out 6 51 (by simp [hdep]) rfl
          rw [show vals 6 = .int .i64 ((k : Nat) : Int) from hV 6 (by simp [hdep])] at d51
          exact step_run rfl (v := .slice pb k cb) (w' := w') (by go_simp; intro h9; have h8 := HK.out.2; have h7 := HBb.out.2.2; omega) ⟨rfl, Below.refl _ _⟩
        · have d52 := hD.out 7 52 (by simp [hdep]) rfl
          rw [show vals 7 = .slice pb k cb from hV 7 (by simp [hdep])] at d52
          have hs := (HS.out w' hJ).2
          exact step_run rfl (v := .string ⟨(b.take k).toArray⟩) (w' := w') (by go_simp) ⟨rfl, Below.refl _ _⟩
        · have d49 := hD.out 4 49 (by simp [hdep]) rfl
          rw [show vals 4 = .string ⟨a.toArray⟩ from hV 4 (by simp [hdep])] at d49
          have d53 := hD.out 8 53 (by simp [hdep]) rfl
          rw [show vals 8 = .string ⟨(b.take k).toArray⟩ from hV 8 (by simp [hdep])] at d53
          exact step_run rfl (v := .string ⟨X.toArray⟩) (w' := w') (by go_simp; have h1 := HN.out; have h2 := HL.out; rw [if_neg (by omega), HXS.out]) ⟨rfl, Below.refl _ _⟩
        · have d47 := hD.out 2 47 (by simp [hdep]) rfl
          rw [show vals 2 = .string ⟨X.toArray⟩ from hV 2 (by simp [hdep])] at d47
          have d54 := hD.out 9 54 (by simp [hdep]) rfl
          rw [show vals 9 = .string ⟨X.toArray⟩ from hV 9 (by simp [hdep])] at d54
          exact step_run rfl (v := .bool false) (w' := w') (by go_simp) ⟨rfl, Below.refl _ _⟩
        · have d55 := hD.out 10 55 (by simp [hdep]) rfl
          rw [show vals 10 = .bool false from hV 10 (by simp [hdep])] at d55
          exact step_run rfl (v := .bool false) (w' := w') (by go_simp) ⟨rfl, Below.refl _ _⟩
        · have d56 := hD.out 11 56 (by simp [hdep]) rfl
          rw [show vals 11 = .bool false from hV 11 (by simp [hdep])] at d56
          exact step_run' (wanted_open rfl rfl d56) (v := .pointer (some ⟨w.heap.size, 0, none⟩)) (w' := w') (by go_simp) ⟨rfl, Below.refl _ _⟩
        · have d57 := hD.out 12 57 (by simp [hdep]) rfl
          rw [show vals 12 = .pointer (some ⟨w.heap.size, 0, none⟩) from hV 12 (by simp [hdep])] at d57
          have d56 := hD.out 11 56 (by simp [hdep]) rfl
          rw [show vals 11 = .bool false from hV 11 (by simp [hdep])] at d56
          refine step_enter' (wanted_open rfl rfl d56) (w' := w') (by go_simp) ((CL.out w' hJ).mono ?_)
          rintro e x ⟨rfl, rfl⟩
          exact ⟨_, rfl, rfl, Below.refl _ _⟩
        · have d58 := hD.out 13 58 (by simp [hdep]) rfl
          rw [show vals 13 = .int .i64 0 from hV 13 (by simp [hdep])] at d58
          have d56 := hD.out 11 56 (by simp [hdep]) rfl
          rw [show vals 11 = .bool false from hV 11 (by simp [hdep])] at d56
          exact step_run' (wanted_open rfl rfl d56) (v := .bool false) (w' := w') (by go_simp) ⟨rfl, Below.refl _ _⟩
        · have d56 := hD.out 11 56 (by simp [hdep]) rfl
          rw [show vals 11 = .bool false from hV 11 (by simp [hdep])] at d56
          have d59 := hD.out 14 59 (by simp [hdep]) rfl
          rw [show vals 14 = .bool false from hV 14 (by simp [hdep])] at d59
          exact step_run rfl (v := .bool false) (w' := w') (by go_simp) ⟨rfl, Below.refl _ _⟩
      · intro vals w' hJ hV
        have e0 : vals 0 = .pointer (some ⟨w.heap.size, 0, none⟩) := hV 0 (by decide)
        have q1 := hV 1 (by decide)
        have e2 : vals 2 = .string ⟨X.toArray⟩ := hV 2 (by decide)
        have e3 : vals 3 = .slice pa na ca := hV 3 (by decide)
        have e4 : vals 4 = .string ⟨a.toArray⟩ := hV 4 (by decide)
        have e5 : vals 5 = .slice pb nb cb := hV 5 (by decide)
        have e6 : vals 6 = .int .i64 ((k : Nat) : Int) := hV 6 (by decide)
        have e7 : vals 7 = .slice pb k cb := hV 7 (by decide)
        have e8 : vals 8 = .string ⟨(b.take k).toArray⟩ := hV 8 (by decide)
        have e9 : vals 9 = .string ⟨X.toArray⟩ := hV 9 (by decide)
        have e10 : vals 10 = .bool false := hV 10 (by decide)
        have e11 : vals 11 = .bool false := hV 11 (by decide)
        have e12 : vals 12 = .pointer (some ⟨w.heap.size, 0, none⟩) := hV 12 (by decide)
        have e13 : vals 13 = .int .i64 0 := hV 13 (by decide)
        have e14 : vals 14 = .bool false := hV 14 (by decide)
        have e15 : vals 15 = .bool false := hV 15 (by decide)
        simp only [putsL, Act.put, List.setIfInBounds_toArray, List.set_cons_zero, List.set_cons_succ, e0, e2, e3, e4, e5, e6, e7, e8, e9, e10, e11, e12, e13, e14, e15]
        clear e0 e2 e3 e4 e5 e6 e7 e8 e9 e10 e11 e12 e13 e14 e15
        have HB6 := Lib.hid (HB5.out.trans (hJ.mono HB5.out.size))
        have HM6 := Lib.hid (HM5.out.below hJ)
        clear hJ hV CB CL HS HXS
        generalize vals 1 = v1 at *
        have C6 := Lib.hid (med_append HM6.out a (by simp; have := HN.out; have := HL.out; omega) na HN.out.1 pa ca (HA.out.1.below HB6.out) HA.out.2.1)
        go_wp2_with fail
        refine C6.out.mono ?_
        rintro e w6 ⟨rfl, hm, hb⟩
        have HB7 := Lib.hid (HB6.out.trans (hb.mono HZ0.out))
        have C7 := Lib.hid (med_swap hm b (by have := HN.out; have := HL.out; omega) nb HN.out.2 pb cb (HBb.out.1.below HB7.out) HBb.out.2.1)
        clear hm hb C6
        go_wp2_with fail
        refine C7.out.mono ?_
        rintro e w7 ⟨rfl, hm, hb⟩
        have HB8 := Lib.hid (HB7.out.trans (hb.mono HZ0.out))
        have C8 := Lib.hid (med_crash hm (by simp; have := HN.out; have := HL.out; omega) 0 0 (by simp))
        clear hm hb C7
        go_wp2_with fail
        refine C8.out.mono ?_
        rintro e w8 ⟨rfl, hm, hb⟩
        rw [List.take_zero, List.append_nil] at hm
        have HB9 := Lib.hid (HB8.out.trans (hb.mono HZ0.out))
        have HM8 := Lib.hid hm
        have C9 := Lib.hid (med_bytes hm (by have := HN.out; have := HL.out; omega) (by simp) nb (by simp [HN.out.2]))
        clear hm hb C8
        go_wp2_with fail
        refine C9.out.mono ?_
        rintro e w9 ⟨q, d, rfl, ho, hm, hb⟩
        have HZ8 := Lib.hid (show W.heap.size ≤ w8.heap.size from HB9.out.size)
        have HB10 := Lib.hid (HB9.out.trans (hb.mono HZ8.out))
        obtain ⟨g, hg, hmut, -⟩ := Mut.of ho hb.size
        have HMut := Lib.hid hmut
        have HG := Lib.hid hg
        have HB98 := Lib.hid hb
        have hnbz : (nb : Int) ≤ 1000 := by have := HL.out; omega
        clear ho hm hb hmut hg C9 HM6 HM5 HB1 HB2 HB3 HB4
        go_wp2_with fail
        go_loopw [10] (fun i wr => ∃ j : Nat, i = .int .i64 j ∧ j ≤ nb ∧ Hid (Mut wr q nb g) ∧ Hid (Below w8.heap.size w8 wr)) (fun i _ => nb - (intOf i).toNat)
        case atStart => exact ⟨0, rfl, Nat.zero_le _, HMut, HB98⟩
        case round =>
          obtain ⟨j, rfl, hj, hmr, hbr⟩ := hrel
          by_cases hlt : j < nb
          · obtain ⟨hq, ⟨x, hx⟩, hf⟩ := hmr.out.at hlt
            have hjz : (j : Int) < (nb : Int) := by omega
            subst hq
            go_wp2_with fail
            go_roundw
            case rel =>
              obtain ⟨y, hy⟩ := u8_of (((x.toNat : Int) + 1) % 256) (by omega) (by omega)
              exact ⟨j + 1, by go_num, by omega, Lib.hid (by rw [hy]; exact hmr.out.set hlt y), Lib.hid (hbr.out.setCell HG.out _)⟩
            case measure => simp [intOf]; omega
          · have hjz : ¬ (j : Int) < (nb : Int) := by omega
            have CB := Lib.hid (fun w' (hb : Below wr.heap.size wr w') => med_bytes (HM8.out.below (hbr.out.trans (hb.mono hbr.out.size))) (by have := HN.out; have := HL.out; omega) (by simp) nb (by simp [HN.out.2]))
            rw [List.append_nil] at CB
            have HBr := Lib.hid (HB9.out.trans (hbr.out.mono HZ8.out))
            have HS := Lib.hid (fun w' (hb : Below wr.heap.size wr w') => show (convert 28 9 (.slice pb nb cb)).run Try.prog w' = .ok (.string ⟨b.toArray⟩) w' from by
              have h2 := run_string w' b pb cb (HBb.out.1.below (HBr.out.trans (hb.mono HBr.out.size)))
              rw [HN.out.2] at h2
              exact h2)
            clear hmr hbr hj hlt
            go_wp2_with fail
            refine wp_region_mono mx (by kernel_rfl) [VP.eq (.pointer (some ⟨w.heap.size, 0, none⟩)), ownVP W.heap.size b, VP.eq (.string ⟨b.toArray⟩), VP.eq (.slice pb nb cb), VP.eq (.string ⟨b.toArray⟩), VP.eq (.bool true), VP.eq (.bool true)] ?_ ?_
            · intro i o L vals w' hi hL hdep hC hJ hV
              have hlt : i < 7 := by have := (List.getElem?_eq_some_iff.1 hi).1; simpa using this
              generalize hA : frA _ _ L vals = a'
              have hT1 : a'.tmps.getD 1 undef = .slice pb nb cb := by rw [← hA, frA_base (by kernel_rfl)]; rfl
              have hT7 : a'.tmps.getD 7 undef = .pointer (some ⟨w.heap.size, 0, none⟩) := by rw [← hA, frA_base (by kernel_rfl)]; rfl
              have hD := Lib.hid (fun k t (hk : L k = true) (ht : dstOf _ k = some t) => hA ▸ frA_done (by kernel_rfl) (vals := vals) hk ht)
              clear hA
              obtain rfl | rfl | rfl | rfl | rfl | rfl | rfl : i = 0 ∨ i = 1 ∨ i = 2 ∨ i = 3 ∨ i = 4 ∨ i = 5 ∨ i = 6 := by omega
              all_goals
                injection hi with hi
                subst hi
                try simp [Region.binds] at hdep
              · exact step_run rfl (v := .pointer (some ⟨w.heap.size, 0, none⟩)) (w' := w') (by go_simp) ⟨rfl, Below.refl _ _⟩
              · have d83 := hD.out 0 83 (by simp [hdep]) rfl
                rw [show vals 0 = .pointer (some ⟨w.heap.size, 0, none⟩) from hV 0 (by simp [hdep])] at d83
                refine step_enter rfl (w' := w') (by go_simp) ((CB.out w' hJ).mono ?_)
                rintro e x ⟨q, d, rfl, ho, -, hb⟩
                exact ⟨_, rfl, own_mono ho (by have := hJ.size; have := HBr.out.size; omega), hb⟩
              · have d84 := hD.out 1 84 (by simp [hdep]) rfl
                obtain ⟨q, d, e, hs⟩ := own_string (hV 1 (by simp [hdep])) (Below.refl _ w')
                rw [e] at d84 hs
                exact step_run rfl (v := .string ⟨b.toArray⟩) (w' := w') (by go_simp) ⟨rfl, Below.refl _ _⟩
              · exact step_run rfl (v := .slice pb nb cb) (w' := w') (by go_simp) ⟨rfl, Below.refl _ _⟩
              · have d86 := hD.out 3 86 (by simp [hdep]) rfl
                rw [show vals 3 = .slice pb nb cb from hV 3 (by simp [hdep])] at d86
                have hs := HS.out w' hJ
                exact step_run rfl (v := .string ⟨b.toArray⟩) (w' := w') (by go_simp) ⟨rfl, Below.refl _ _⟩
              · have d85 := hD.out 2 85 (by simp [hdep]) rfl
                rw [show vals 2 = .string ⟨b.toArray⟩ from hV 2 (by simp [hdep])] at d85
                have d87 := hD.out 4 87 (by simp [hdep]) rfl
                rw [show vals 4 = .string ⟨b.toArray⟩ from hV 4 (by simp [hdep])] at d87
                exact step_run rfl (v := .bool true) (w' := w') (by go_simp) ⟨rfl, Below.refl _ _⟩
              · have d88 := hD.out 5 88 (by simp [hdep]) rfl
                rw [show vals 5 = .bool true from hV 5 (by simp [hdep])] at d88
                exact step_run rfl (v := .bool true) (w' := w') (by go_simp) ⟨rfl, Below.refl _ _⟩
            · intro vals w' hJ hV
              have e0 : vals 0 = .pointer (some ⟨w.heap.size, 0, none⟩) := hV 0 (by decide)
              have q1 := hV 1 (by decide)
              have e2 : vals 2 = .string ⟨b.toArray⟩ := hV 2 (by decide)
              have e3 : vals 3 = .slice pb nb cb := hV 3 (by decide)
              have e4 : vals 4 = .string ⟨b.toArray⟩ := hV 4 (by decide)
              have e5 : vals 5 = .bool true := hV 5 (by decide)
              have e6 : vals 6 = .bool true := hV 6 (by decide)
              simp only [putsL, Act.put, List.setIfInBounds_toArray, List.set_cons_zero, List.set_cons_succ, e0, e2, e3, e4, e5, e6]
              clear e0 e2 e3 e4 e5 e6
              have HBe := Lib.hid (HBr.out.trans (hJ.mono HBr.out.size))
              clear hJ hV
              generalize vals 1 = v2 at *
              go_wp2_with fail
              go_ret
              exact ⟨rfl, HBe.out⟩
end Go.Proofs.Ytbolmfpcddgpgaa
