/-
  MediumPlays: the walk.
-/
import Derived.Test.YtbolmfpcddgpgaaMdDoAny
namespace Go.Proofs.Ytbolmfpcddgpgaa
open Go.RowKit Go.Gz

theorem MedAt.lower {w : World} {B B' M : Nat} {vs vl : Value} {S L : List UInt8} (h : MedAt w B M vs vl S L) (hB : B' ≤ B) : MedAt w B' M vs vl S L :=
  ⟨h.c, Nat.le_trans hB h.b, own_mono h.s hB, own_mono h.l hB, h.ne⟩
/-- what 'New' and the reference's beside it are. -/
theorem pair_new {w1 : World} {B M : Nat} (hm : MedAt w1 B M (.slice none 0 0) (.slice none 0 0) [] []) : Pair (w1.alloc (.cells #[.slice none 0 0, .int .i64 0] 30)) B M w1.heap.size 0 := by
  refine ⟨_, _, none, 0, [], [], ⟨hm.below ((Below.refl _ _).alloc (Nat.le_refl _) _), ⟨by show (w1.heap.push _)[w1.heap.size]? = _; simp, Or.inl rfl, Nat.le_refl _, fun _ => rfl⟩, hm.hB, fun e => ?_, fun b hb => by cases hb⟩, Nat.le_refl _⟩
  have := (hm.low _ e).2
  omega

/-- a medium's copy: what it is, in whatever world grows. -/
def cpVP (B : Nat) (S L : List UInt8) : VP := ⟨fun v w => ∃ C a b, v = .pointer (some ⟨C, 0, none⟩) ∧ MedAt w B C a b S L, fun _ _ _ ⟨C, a, b, e, h⟩ hb => ⟨C, a, b, e, h.below hb⟩⟩
/-- the reference's copy. -/
def rfVP (B : Nat) (p : Option Addr) (c : Nat) (X : List UInt8) (l : Nat) : VP := ⟨fun v w => ∃ K, v = .pointer (some ⟨K, 0, none⟩) ∧ B ≤ K ∧ RefAt w K p c X l, fun _ _ _ ⟨K, e, hB, h⟩ hb => ⟨K, e, hB, h.kept (Kept.of_below (F := fun _ => False) hb) (fun h => h) fun _ _ h => h⟩⟩
/-- the two copies are a pair. -/
theorem pair_copy {w w' : World} {B M R n C K : Nat} {vs vl a b : Value} {S L : List UInt8} {p : Option Addr} {c : Nat} (h : Half w B M R vs vl S L p c (S ++ L) L.length) (hl : S.length + L.length ≤ n) (hb : Below w.heap.size w w')
    (hC : MedAt w' w.heap.size C a b S L) (hK : w.heap.size ≤ K) (hR : RefAt w' K p c (S ++ L) L.length) : Pair w' w.heap.size C K n := by
  refine ⟨a, b, p, c, S, L, ⟨hC, hR, hK, ?_, fun i hi => ⟨by have := (h.np i hi).1; have := hb.size; omega, fun e => by have := (hC.low i e).1; have := (h.np i hi).1; omega, fun e => by have := (h.np i hi).1; omega⟩⟩, hl⟩
  rintro (e | e | e)
  · have h1 := hC.c
    rw [← e] at h1
    have := h1.symm.trans hR.h0
    simp at this
  · obtain ⟨cs, fz, hh⟩ := hC.s.type K e
    have := hh.symm.trans hR.h0
    simp at this
  · obtain ⟨cs, fz, hh⟩ := hC.l.type K e
    have := hh.symm.trans hR.h0
    simp at this

set_option maxHeartbeats 8000000 in
set_option maxRecDepth 1000000 in
theorem plays_walk (a b : List DE) (pa pb : Option Addr) (ca cb : Nat) (W : World) (ha : Deeds W pa a) (hb : Deeds W pb b) (hla : a.length ≤ 9223372036854775807) (hlb : b.length ≤ 9223372036854775807)
    (hxa : ∀ x ∈ a, x.b.length ≤ 140737488351232) (hxb : ∀ x ∈ b, x.b.length ≤ 140737488351232) :
    Calls Try.prog 3 #[.slice pa a.length ca, .slice pb b.length cb] W fun e w' => e = .returned (.bool true) ∧ Below W.heap.size W w' := by
  have mx := mixedMd
  have CA := Lib.hid (awake_yes W)
  obtain ⟨na, hna⟩ : ∃ n, a.length = n := ⟨_, rfl⟩
  obtain ⟨nb, hnb⟩ : ∃ n, b.length = n := ⟨_, rfl⟩
  have HN := Lib.hid (And.intro hna hnb)
  have HA := Lib.hid ha
  have HBb := Lib.hid hb
  rw [hna] at hla ⊢
  rw [hnb] at hlb ⊢
  have CSa := Lib.hid (fun w' (hb' : Below W.heap.size W w') => small_any a pa ca na hna w' (ha.below hb') _ (Nat.le_refl _) hxa hla)
  have CSb := Lib.hid (fun w' (hb' : Below W.heap.size W w') => small_any b pb cb nb hnb w' (hb.below hb') _ (Nat.le_refl _) hxb hlb)
  clear ha hb hna hnb hla hlb hxa hxb
  go_enter Try.func3, Try.ntmps3
  go_wp2_with fail
  refine CA.out.mono ?_
  rintro e w ⟨rfl, hb0⟩
  have HB0 := Lib.hid hb0
  have C1 := Lib.hid (CSa.out w hb0)
  have C2 := Lib.hid (CSb.out w hb0)
  have C0 := Lib.hid (new_any w)
  have HZ0 := Lib.hid hb0.size
  clear hb0 CA CSa CSb
  go_wp2_with fail
  refine C1.out.mono ?_
  rintro e w' ⟨r1, rfl, h1, rfl⟩
  cases r1 with
  | false =>
    go_wp2_with fail
    go_ret
    exact ⟨rfl, HB0.out⟩
  | true =>
    have H1 := Lib.hid (h1 rfl)
    clear h1
    go_wp2_with fail
    refine C2.out.mono ?_
    rintro e w' ⟨r2, rfl, h2, rfl⟩
    cases r2 with
    | false =>
      go_wp2_with fail
      go_ret
      exact ⟨rfl, HB0.out⟩
    | true =>
      have H2 := Lib.hid (h2 rfl)
      clear h2
      go_wp2_with fail
      refine C0.out.mono ?_
      rintro e w1 ⟨rfl, hm, hb1⟩
      have hm1 := hm.lower HZ0.out
      have HP := Lib.hid (pair_new hm1)
      have HB1 := Lib.hid ((HB0.out.trans (hb1.mono HZ0.out)).alloc hm1.hB (.cells #[.slice none 0 0, .int .i64 0] 30))
      have hnaz : (na : Int) ≤ 200 := by have := H1.out.1; omega
      have hnbz : (nb : Int) ≤ 200 := by have := H2.out.1; omega
      clear hm hb1 hm1 C0 C1 C2
      go_wp2_with fail
      go_loopw [7] (fun i wr => ∃ j : Nat, i = .int .i64 j ∧ j ≤ na ∧ Hid (Pair wr W.heap.size w.heap.size w1.heap.size (totD a j)) ∧ Hid (Below W.heap.size W wr)) (fun i _ => na - (intOf i).toNat)
      case atStart => exact ⟨0, rfl, Nat.zero_le _, HP, HB1⟩
      case round =>
        obtain ⟨j, rfl, hj, hpr, hbr⟩ := hrel
        by_cases hlt : j < na
        · have hjz : (j : Int) < (na : Int) := by omega
          have hD := HA.out.below hbr.out
          obtain ⟨bb, off, rfl, c0, c1, c2, hBA⟩ := hD.at_ (j := j) (by rw [HN.out.1]; exact hlt)
          have hBA0 : BAt W a[j]! := by
            obtain ⟨_, _, _, _, _, _, h⟩ := HA.out.at_ (j := j) (by rw [HN.out.1]; exact hlt)
            exact h
          have hstep : totD a (j + 1) = totD a j + a[j]!.b.length := rfl
          have htot : totD a (j + 1) ≤ totD a na := totD_mono a hlt
          have CD := Lib.hid (do_any hpr.out (by have := H1.out.2; omega) a[j]!.d a[j]!.n a[j]!.b _ rfl (by have := H1.out.2; omega) a[j]!.p a[j]!.cap (fun w' hb => hBA0.1.below (hbr.out.trans hb)) hBA0.2.2)
          rw [← hstep] at CD
          have HT := Lib.hid (show totD a (j + 1) ≤ 5000 from by have := H1.out.2; omega)
          obtain ⟨x, hx⟩ : ∃ x, a[j]! = x := ⟨_, rfl⟩
          rw [hx] at c0 c1 c2 CD
          unfold deedV at CD
          have HBr := Lib.hid hbr.out
          clear hD hBA hBA0 hstep htot hpr hbr hx
          go_wp2_with fail
          refine CD.out.mono ?_
          rintro e w2 ⟨rfl, hp2, hb2⟩
          have C2 := Lib.hid (same_any hp2 (by have := HT.out; omega))
          have HP2 := Lib.hid hp2
          have HB2 := Lib.hid (HBr.out.trans hb2)
          have HZ2 := Lib.hid hp2.hB
          clear hp2 hb2 CD c0 c1 c2
          go_wp2_with fail
          refine C2.out.mono ?_
          rintro e w3 ⟨rfl, hb3⟩
          have HP3 := Lib.hid (HP2.out.below hb3)
          have HB3 := Lib.hid (HB2.out.trans (hb3.mono HZ2.out))
          clear hb3 C2
          go_wp2_with fail
          go_roundw
          case rel => exact ⟨j + 1, by go_num, by omega, HP3, HB3⟩
          case measure => simp [intOf]; omega
        · have hjz : ¬ (j : Int) < (na : Int) := by omega
          obtain rfl : j = na := by omega
          obtain ⟨w4, hw4⟩ : ∃ w4, w4 = wr := ⟨_, rfl⟩
          rw [← hw4] at hpr hbr
          rw [← hw4]
          obtain ⟨vs, vl, p, c, S, L, hH, hlen⟩ := hpr.out
          have HPm := Lib.hid hpr.out
          have HB4 := Lib.hid hbr.out
          have HH := Lib.hid hH
          have HL := Lib.hid (show S.length + L.length ≤ 5000 from by have := H1.out.2; omega)
          have CC := Lib.hid (fun w' (hb : Below w4.heap.size w4 w') => copy_any (hH.m.below hb) (by have := HL.out; omega) (by have := HL.out; omega))
          obtain ⟨z, hz⟩ : ∃ z, (S ++ L).length = z := ⟨_, rfl⟩
          obtain ⟨l, hl⟩ : ∃ l, L.length = l := ⟨_, rfl⟩
          have HC := Lib.hid (show w4.cell? ⟨w1.heap.size, 0, none⟩ = some (.slice p z c) ∧ w4.cell? ⟨w1.heap.size, 1, none⟩ = some (.int .i64 ((l : Nat) : Int)) ∧ w1.heap.size < w4.heap.size from ⟨by rw [← hz]; exact hH.r.c0, by rw [← hl]; exact hH.r.c1, hH.r.lt⟩)
          have HE := Lib.hid (And.intro hz hl)
          have HZ4 := Lib.hid (show W.heap.size ≤ w4.heap.size from hpr.out.hB)
          clear hpr hbr hH hlen hz hl hw4 hlt hj
          go_wp2_with fail
          refine wp_region_mono mx (by kernel_rfl) [VP.eq (.pointer (some ⟨w.heap.size, 0, none⟩)), cpVP w4.heap.size S L, VP.eq (.pointer (some ⟨w1.heap.size, 0, none⟩)), VP.eq (.pointer (some ⟨w1.heap.size, 0, none⟩)), VP.eq (.pointer (some ⟨w1.heap.size, 0, none⟩)), VP.eq (.slice p z c), VP.eq (.pointer (some ⟨w1.heap.size, 0, none⟩)), VP.eq (.pointer (some ⟨w1.heap.size, 0, none⟩)), VP.eq (.pointer (some ⟨w1.heap.size, 1, none⟩)), VP.eq (.int .i64 ((l : Nat) : Int)), VP.eq (.agg #[.slice p z c, .int .i64 ((l : Nat) : Int)]), rfVP w4.heap.size p c (S ++ L) L.length, cpVP w4.heap.size S L, rfVP w4.heap.size p c (S ++ L) L.length] ?_ ?_
          · intro i o L vals w' hi hL hdep hC hJ hV
            have hlt : i < 14 := by have := (List.getElem?_eq_some_iff.1 hi).1; simpa using this
            generalize hA : frA _ _ L vals = a'
            have hT5 : a'.tmps.getD 5 undef = .pointer (some ⟨w.heap.size, 0, none⟩) := by rw [← hA, frA_base (by kernel_rfl)]; rfl
            have hT6 : a'.tmps.getD 6 undef = .pointer (some ⟨w1.heap.size, 0, none⟩) := by rw [← hA, frA_base (by kernel_rfl)]; rfl
            have hD := Lib.hid (fun k t (hk : L k = true) (ht : dstOf _ k = some t) => hA ▸ frA_done (by kernel_rfl) (vals := vals) hk ht)
            clear hA
            have c0 : w'.cell? ⟨w1.heap.size, 0, none⟩ = some (.slice p z c) := by rw [hJ.cell (p := ⟨w1.heap.size, 0, none⟩) HC.out.2.2]; exact HC.out.1
            have c1 : w'.cell? ⟨w1.heap.size, 1, none⟩ = some (.int .i64 ((l : Nat) : Int)) := by rw [hJ.cell (p := ⟨w1.heap.size, 1, none⟩) HC.out.2.2]; exact HC.out.2.1
            obtain rfl | rfl | rfl | rfl | rfl | rfl | rfl | rfl | rfl | rfl | rfl | rfl | rfl | rfl : i = 0 ∨ i = 1 ∨ i = 2 ∨ i = 3 ∨ i = 4 ∨ i = 5 ∨ i = 6 ∨ i = 7 ∨ i = 8 ∨ i = 9 ∨ i = 10 ∨ i = 11 ∨ i = 12 ∨ i = 13 := by omega
            all_goals
              injection hi with hi
              subst hi
              try simp [Region.binds] at hdep
            · exact step_run rfl (v := .pointer (some ⟨w.heap.size, 0, none⟩)) (w' := w') (by go_simp) ⟨rfl, Below.refl _ _⟩
            · have d43 := hD.out 0 43 (by simp [hdep]) rfl
              rw [show vals 0 = .pointer (some ⟨w.heap.size, 0, none⟩) from hV 0 (by simp [hdep])] at d43
              refine step_enter rfl (w' := w') (by go_simp) ((CC.out w' hJ).mono ?_)
              rintro e x ⟨C, u, v, rfl, hm, hb⟩
              exact ⟨_, rfl, ⟨C, u, v, rfl, hm.lower hJ.size⟩, hb⟩
            · exact step_run rfl (v := .pointer (some ⟨w1.heap.size, 0, none⟩)) (w' := w') (by go_simp) ⟨rfl, Below.refl _ _⟩
            · have d45 := hD.out 2 45 (by simp [hdep]) rfl
              rw [show vals 2 = .pointer (some ⟨w1.heap.size, 0, none⟩) from hV 2 (by simp [hdep])] at d45
              exact step_run rfl (v := .pointer (some ⟨w1.heap.size, 0, none⟩)) (w' := w') (by go_simp) ⟨rfl, Below.refl _ _⟩
            · have d46 := hD.out 3 46 (by simp [hdep]) rfl
              rw [show vals 3 = .pointer (some ⟨w1.heap.size, 0, none⟩) from hV 3 (by simp [hdep])] at d46
              exact step_run rfl (v := .pointer (some ⟨w1.heap.size, 0, none⟩)) (w' := w') (by go_simp) ⟨rfl, Below.refl _ _⟩
            · have d47 := hD.out 4 47 (by simp [hdep]) rfl
              rw [show vals 4 = .pointer (some ⟨w1.heap.size, 0, none⟩) from hV 4 (by simp [hdep])] at d47
              exact step_run rfl (v := .slice p z c) (w' := w') (by go_simp) ⟨rfl, Below.refl _ _⟩
            · exact step_run rfl (v := .pointer (some ⟨w1.heap.size, 0, none⟩)) (w' := w') (by go_simp) ⟨rfl, Below.refl _ _⟩
            · have d49 := hD.out 6 49 (by simp [hdep]) rfl
              rw [show vals 6 = .pointer (some ⟨w1.heap.size, 0, none⟩) from hV 6 (by simp [hdep])] at d49
              exact step_run rfl (v := .pointer (some ⟨w1.heap.size, 0, none⟩)) (w' := w') (by go_simp) ⟨rfl, Below.refl _ _⟩
            · have d50 := hD.out 7 50 (by simp [hdep]) rfl
              rw [show vals 7 = .pointer (some ⟨w1.heap.size, 0, none⟩) from hV 7 (by simp [hdep])] at d50
              exact step_run rfl (v := .pointer (some ⟨w1.heap.size, 1, none⟩)) (w' := w') (by go_simp) ⟨rfl, Below.refl _ _⟩
            · have d51 := hD.out 8 51 (by simp [hdep]) rfl
              rw [show vals 8 = .pointer (some ⟨w1.heap.size, 1, none⟩) from hV 8 (by simp [hdep])] at d51
              exact step_run rfl (v := .int .i64 ((l : Nat) : Int)) (w' := w') (by go_simp) ⟨rfl, Below.refl _ _⟩
            · have d48 := hD.out 5 48 (by simp [hdep]) rfl
              rw [show vals 5 = .slice p z c from hV 5 (by simp [hdep])] at d48
              have d52 := hD.out 9 52 (by simp [hdep]) rfl
              rw [show vals 9 = .int .i64 ((l : Nat) : Int) from hV 9 (by simp [hdep])] at d52
              have d48' := d48; rw [Array.getD_eq_getD_getElem?] at d48'
              have d52' := d52; rw [Array.getD_eq_getD_getElem?] at d52'
              exact step_run rfl (v := .agg #[.slice p z c, .int .i64 ((l : Nat) : Int)]) (w' := w') (by go_simp) ⟨rfl, Below.refl _ _⟩
            · have d53 := hD.out 10 53 (by simp [hdep]) rfl
              rw [show vals 10 = .agg #[.slice p z c, .int .i64 ((l : Nat) : Int)] from hV 10 (by simp [hdep])] at d53
              have hb' : Below w'.heap.size w' (w'.alloc (.cells #[.slice p z c, .int .i64 ((l : Nat) : Int)] 30)) := (Below.refl _ _).alloc (Nat.le_refl _) _
              exact step_run rfl (v := .pointer (some ⟨w'.heap.size, 0, none⟩)) (w' := w'.alloc (.cells #[.slice p z c, .int .i64 ((l : Nat) : Int)] 30)) (by go_simp)
                ⟨⟨w'.heap.size, rfl, hJ.size, by rw [HE.out.1, HE.out.2]; show (w'.heap.push _)[w'.heap.size]? = _; simp, HH.out.r.row.below (hJ.trans (hb'.mono hJ.size)), HH.out.r.le, HH.out.r.pc⟩, hb'⟩
            · have d44 := hD.out 1 44 (by simp [hdep]) rfl
              exact step_run rfl (v := vals 1) (w' := w') (by go_simp) ⟨hV 1 (by simp [hdep]), Below.refl _ _⟩
            · have d54 := hD.out 11 54 (by simp [hdep]) rfl
              exact step_run rfl (v := vals 11) (w' := w') (by go_simp) ⟨hV 11 (by simp [hdep]), Below.refl _ _⟩
          · intro vals w' hJ hV
            have e0 : vals 0 = .pointer (some ⟨w.heap.size, 0, none⟩) := hV 0 (by decide)
            have q1 := hV 1 (by decide)
            have e2 : vals 2 = .pointer (some ⟨w1.heap.size, 0, none⟩) := hV 2 (by decide)
            have e3 : vals 3 = .pointer (some ⟨w1.heap.size, 0, none⟩) := hV 3 (by decide)
            have e4 : vals 4 = .pointer (some ⟨w1.heap.size, 0, none⟩) := hV 4 (by decide)
            have e5 : vals 5 = .slice p z c := hV 5 (by decide)
            have e6 : vals 6 = .pointer (some ⟨w1.heap.size, 0, none⟩) := hV 6 (by decide)
            have e7 : vals 7 = .pointer (some ⟨w1.heap.size, 0, none⟩) := hV 7 (by decide)
            have e8 : vals 8 = .pointer (some ⟨w1.heap.size, 1, none⟩) := hV 8 (by decide)
            have e9 : vals 9 = .int .i64 ((l : Nat) : Int) := hV 9 (by decide)
            have e10 : vals 10 = .agg #[.slice p z c, .int .i64 ((l : Nat) : Int)] := hV 10 (by decide)
            have q11 := hV 11 (by decide)
            have q12 := hV 12 (by decide)
            have q13 := hV 13 (by decide)
            simp only [putsL, Act.put, List.setIfInBounds_toArray, List.set_cons_zero, List.set_cons_succ, e0, e2, e3, e4, e5, e6, e7, e8, e9, e10]
            clear e0 e2 e3 e4 e5 e6 e7 e8 e9 e10
            obtain ⟨C, ac, bc, e12, hC⟩ := q12
            obtain ⟨K, e13, hK, hR⟩ := q13
            rw [e12, e13]
            have HPc := Lib.hid (pair_copy HH.out HL.out hJ hC hK hR)
            have HP5 := Lib.hid (HPm.out.below hJ)
            have HB5 := Lib.hid (HB4.out.trans (hJ.mono HZ4.out))
            have HZ5 := Lib.hid (show w4.heap.size ≤ w'.heap.size from hJ.size)
            have HJ5 := Lib.hid hJ
            clear hJ hV hC hK hR e12 e13 q1 q11
            generalize vals 1 = v1 at *
            generalize vals 11 = v11 at *
            go_wp2_with fail
            go_loopw [10] (fun i wr => ∃ k : Nat, i = .int .i64 k ∧ k ≤ nb ∧ Hid (Pair wr w4.heap.size C K (5000 + totD b k)) ∧ Hid (Below w4.heap.size w' wr)) (fun i _ => nb - (intOf i).toNat)
            case atStart => exact ⟨0, rfl, Nat.zero_le _, HPc, Lib.hid (Below.refl _ _)⟩
            case round =>
              obtain ⟨k, rfl, hk, hpr, hbr⟩ := hrel
              by_cases hlt : k < nb
              · have hkz : (k : Int) < (nb : Int) := by omega
                have hWr : Below W.heap.size W wr := HB5.out.trans (hbr.out.mono HZ4.out)
                have hD := HBb.out.below hWr
                obtain ⟨bb, off, rfl, c0, c1, c2, hBA⟩ := hD.at_ (j := k) (by rw [HN.out.2]; exact hlt)
                have hBA0 : BAt W b[k]! := by
                  obtain ⟨_, _, _, _, _, _, h⟩ := HBb.out.at_ (j := k) (by rw [HN.out.2]; exact hlt)
                  exact h
                have hstep : totD b (k + 1) = totD b k + b[k]!.b.length := rfl
                have htot : totD b (k + 1) ≤ totD b nb := totD_mono b hlt
                have CD := Lib.hid (do_any hpr.out (by have := H2.out.2; omega) b[k]!.d b[k]!.n b[k]!.b _ rfl (by have := H2.out.2; omega) b[k]!.p b[k]!.cap (fun x hb => hBA0.1.below (hWr.trans (hb.mono HZ4.out))) hBA0.2.2)
                rw [Nat.add_assoc, ← hstep] at CD
                have HT := Lib.hid (show totD b (k + 1) ≤ 5000 from by have := H2.out.2; omega)
                obtain ⟨x, hx⟩ : ∃ x, b[k]! = x := ⟨_, rfl⟩
                rw [hx] at c0 c1 c2 CD
                unfold deedV at CD
                have HBr := Lib.hid hbr.out
                clear hD hBA hBA0 hstep htot hpr hbr hx hWr
                go_wp2_with fail
                refine CD.out.mono ?_
                rintro e w6 ⟨rfl, hp6, hb6⟩
                have hb46 : Below w4.heap.size w4 w6 := HJ5.out.trans (HBr.out.trans hb6)
                have C6 := Lib.hid (same_any hp6 (by have := HT.out; omega))
                have HP6 := Lib.hid hp6
                have HB6 := Lib.hid (HBr.out.trans hb6)
                have HZ6 := Lib.hid hp6.hB
                have HPm6 := Lib.hid (HPm.out.below hb46)
                clear hp6 hb6 CD c0 c1 c2 hb46
                go_wp2_with fail
                refine C6.out.mono ?_
                rintro e w7 ⟨rfl, hb7⟩
                have HP7 := Lib.hid (HP6.out.below hb7)
                have HB7 := Lib.hid (HB6.out.trans (hb7.mono HZ6.out))
                have HPm7 := Lib.hid (HPm6.out.below hb7)
                have C7 := Lib.hid (same_any HPm7.out (by have := H1.out.2; omega))
                have HZ7 := Lib.hid HP7.out.hB
                clear hb7 C6
                go_wp2_with fail
                refine C7.out.mono ?_
                rintro e w8 ⟨rfl, hb8⟩
                have HP8 := Lib.hid (HP7.out.below hb8)
                have HB8 := Lib.hid (HB7.out.trans (hb8.mono HZ7.out))
                clear hb8 C7
                go_wp2_with fail
                go_roundw
                case rel => exact ⟨k + 1, by go_num, by omega, HP8, HB8⟩
                case measure => simp [intOf]; omega
              · have hkz : ¬ (k : Int) < (nb : Int) := by omega
                have HBe := Lib.hid (HB5.out.trans (hbr.out.mono HZ4.out))
                clear hpr hbr
                go_wp2_with fail
                go_ret
                exact ⟨rfl, HBe.out⟩
end Go.Proofs.Ytbolmfpcddgpgaa
