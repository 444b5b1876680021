/-
  Layer grove: the law GroveTakes.
-/
import Derived.Test.YtaghflionakhhaaGvAwake
import Derived.Test.YtaghflionakhhaaGvGoIu
import Derived.Test.YtaghflionakhhaaGvOutIu
import Derived.Test.YtaghflionakhhaaGvNum
import Derived.Test.YtaghflionakhhaaGvBits
import Derived.Test.YtaghflionakhhaaGvArgs
namespace Go.Proofs.Ytaghflionakhhaa
open Go.RowKit Go.Gz

set_option maxRecDepth 100000 in
theorem tk_ord : OrdIu 28 (fun a b => a - b) smallK where
  eg := fun _ _ => rfl
  hF := fun a b w ha hb => by
    obtain ⟨h1, h2⟩ := ha
    obtain ⟨h3, h4⟩ := hb
    go_enter Try.func28, Try.ntmps28
    go_wp2_with fail
    go_ret
    exact ⟨rfl, rfl⟩

def tkF (s : Int) (_ : Int) (_ : Int) : Int × Bool := (s + 1, true)
set_option maxRecDepth 100000 in
theorem tk_see (m : Nat) (w0 : World) : SeesIu tkF 34 #[.pointer (some ⟨m, 0, none⟩)] (fun s _ => 0 ≤ s ∧ s ≤ 100000) (fun j => j ≠ m) w0 (fun s w => OneJ w0 m (.int .i64 s) w) where
  eg := fun _ _ => rfl
  hs := fun s k v w hj ha => by
    have c0 := hj.cell
    have f0 := hj.fr
    have HJ := Lib.hid hj
    obtain ⟨h1, h2⟩ := ha
    clear hj
    go_enter Try.func34, Try.ntmps34
    go_wp2_with fail
    go_ret
    exact ⟨rfl, HJ.out.set⟩
  hb := fun s w w' h hb => h.below hb
  hz := fun s w h => h.chg.size
  hk := fun s w h j hj hlt => h.chg.block j hlt hj

/-- what was put under j. -/
def tkX (mask : Nat) (j : Nat) : Int := bits .xor .u8 (j : Int) (mask : Int)

set_option maxHeartbeats 4000000 in
set_option maxRecDepth 100000 in
theorem takes_walk (n st mask : Nat) (hn : n < 256) (hst : st < 256) (hmask : mask < 256) (W : World) : Calls Try.prog 6 #[.int .u8 n, .int .u8 st, .int .u8 mask] W fun e w' => e = .returned (.bool true) ∧ Below W.heap.size W w' := by
  have hmf : ∀ (fn : Fn) (first cap : Array Value) (w : World), (Instr.makeFunc fn first cap).run Try.prog w = .ok (.func fn first cap) w := fun _ _ _ _ => rfl
  have CA := Lib.hid (awake_true W)
  have hni : (n : Int) < 256 := by omega
  have hsi : (st : Int) < 256 := by omega
  have hmi : (mask : Int) < 256 := by omega
  go_enter Try.func6, Try.ntmps6
  go_wp2_with fail
  refine CA.out.mono ?_
  rintro e w1 ⟨rfl, hb1⟩
  have HB1 := Lib.hid hb1
  have CN := Lib.hid (new_anyIu 28 w1)
  obtain ⟨G, hG⟩ : ∃ G, w1.heap.size = G := ⟨_, rfl⟩
  rw [hG] at CN
  have HG := Lib.hid hG
  clear hb1 CA hG
  go_wp2_with fail
  refine CN.out.mono ?_
  rintro e w2 ⟨rfl, hg2, hb2, hz2⟩
  have HG2 := Lib.hid hg2
  have HB2 := Lib.hid hb2
  clear hg2 hb2 hz2 CN
  obtain ⟨k, hk⟩ : ∃ k : Nat, 1 + n = k := ⟨_, rfl⟩
  have hki : 1 + (n : Int) = (k : Int) := by omega
  have hk1 : 1 ≤ k := by omega
  have hk2 : k ≤ 256 := by omega
  go_wp2_with fail
  go_loopg [9] k (fun gg v wr => ∃ i : Nat, i ≤ k ∧ k - i ≤ gg ∧ v = .int .i64 i ∧ ∃ t : GT Int Int, Hid (GrIu (.func (.func 28) #[] #[]) (G + 1) wr G t) ∧ Hid (Fine (fun a b : Int => a - b) t) ∧ Hid (∀ p, p ∈ t.list ↔ ∃ j : Nat, j < i ∧ p = ((j : Int), tkX mask j)) ∧ Hid (t.many = i) ∧ Hid (Below G w1 wr))
  case atStart => exact ⟨0, by omega, by omega, rfl, .nil, HG2, Lib.hid Fine.nil, Lib.hid (fun p => ⟨fun h => (by cases h), fun ⟨j, h, _⟩ => absurd h (Nat.not_lt_zero _)⟩), Lib.hid rfl, HB2⟩
  case round =>
    obtain ⟨i, hik, hgg, rfl, t, HGt, HF, HM, HN, HB⟩ := hrel
    by_cases hlt : i < k
    · have hltz : (i : Int) < (k : Int) := by omega
      have hi8 : (i : Int) < 256 := by omega
      have CP := Lib.hid (fun x => put_anyIu tk_ord G (G + 1) (i : Int) x t wr HGt.out (by have := HN.out; omega) ⟨by omega, by omega⟩ (fun q hq => by
        obtain ⟨j, hj, rfl⟩ := (HM.out q).mp hq
        exact ⟨by show (-1000000 : Int) ≤ (j : Int); omega, by show (j : Int) ≤ 1000000; omega⟩))
      go_wp2_with fail
      refine (CP.out (tkX mask i)).mono ?_
      rintro e w3 ⟨rfl, hg3, hc3⟩
      have hno : ∀ p ∈ t.list, p.1 ≠ (i : Int) := fun p hp => by
        obtain ⟨j, hj, rfl⟩ := (HM.out p).mp hp
        show (j : Int) ≠ (i : Int)
        omega
      have HGt3 := Lib.hid hg3
      have HF3 := Lib.hid (HF.out.put cmp_sub (i : Int) (tkX mask i))
      have HN3 := Lib.hid (show (withT (fun a b : Int => a - b) (i : Int) (tkX mask i) t).many = i + 1 by
        rw [with_many cmp_sub _ _ _ HF.out.rise, hasK_no cmp_sub hno, HN.out]; rfl)
      have HM3 := Lib.hid (show ∀ p, p ∈ (withT (fun a b : Int => a - b) (i : Int) (tkX mask i) t).list ↔ ∃ j : Nat, j < i + 1 ∧ p = ((j : Int), tkX mask j) from fun p => by
        rw [mem_with cmp_sub _ _ _ HF.out.rise, HM.out p]
        constructor
        · rintro (h | ⟨⟨j, hj, h⟩, _⟩)
          · exact ⟨i, by omega, h⟩
          · exact ⟨j, by omega, h⟩
        · rintro ⟨j, hj, h⟩
          by_cases e : j = i
          · exact .inl (by rw [h, e])
          · exact .inr ⟨⟨j, by omega, h⟩, by rw [h]; show (j : Int) ≠ (i : Int); omega⟩)
      have HB3 := Lib.hid (HB.out.trans (hc3.below (Nat.le_refl G) (by have := HGt.out.hB; omega)))
      clear hg3 hc3 hno CP
      go_wp2_with fail
      go_roundg (k - (i + 1))
      case measure => omega
      case rel => exact ⟨i + 1, by omega, by omega, by go_num, _, HGt3, HF3, HM3, HN3, HB3⟩
    · have hltz : ¬ (i : Int) < (k : Int) := by omega
      obtain rfl : i = k := by omega
      obtain ⟨sN, hsN⟩ : ∃ sN : Nat, 1 + 2 * (st % 128) = sN := ⟨_, rfl⟩
      have hse : 1 + 2 * ((st : Int) % 128) = (sN : Int) := by omega
      have hsb : sN < 256 := by omega
      obtain ⟨r, hr⟩ : ∃ r, (sN * r) % 256 = 1 := by
        obtain ⟨r, _, e⟩ := odd_inv256 (st % 128) (by omega)
        exact ⟨r, by rw [← hsN]; exact e⟩
      have HR := Lib.hid hr
      clear hr hsN
      have HMk := Lib.hid (show ∀ p, p ∈ t.list ↔ ∃ j : Nat, j < i ∧ p = ((j : Int), tkX mask j) ∧ ∀ i' : Nat, i' < 0 → (i' * sN) % 256 ≠ j from fun p => by
        rw [HM.out p]
        exact ⟨fun ⟨j, h1, h2⟩ => ⟨j, h1, h2, fun _ h => absurd h (Nat.not_lt_zero _)⟩, fun ⟨j, h1, h2, _⟩ => ⟨j, h1, h2⟩⟩)
      have HL0 := Lib.hid (show (i : Int) = (t.many : Int) by rw [HN.out])
      have HT0 := Lib.hid (show t.many ≤ 256 by rw [HN.out]; exact hk2)
      go_wp2_with fail
      go_loopg [11, 12] 256 (fun gg v11 v12 wr => ∃ q : Nat, q ≤ 256 ∧ 256 - q ≤ gg ∧ v12 = .int .i64 q ∧ ∃ t : GT Int Int, v11 = .int .i64 (t.many : Nat) ∧ Hid (GrIu (.func (.func 28) #[] #[]) (G + 1) wr G t) ∧ Hid (Fine (fun a b : Int => a - b) t) ∧ Hid (∀ p, p ∈ t.list ↔ ∃ j : Nat, j < i ∧ p = ((j : Int), tkX mask j) ∧ ∀ i' : Nat, i' < q → (i' * sN) % 256 ≠ j) ∧ Hid (t.many ≤ 256) ∧ Hid (Below G w1 wr))
      case atStart => exact ⟨0, by omega, by omega, rfl, t, by rw [HL0.out], HGt, HF, HMk, HT0, HB⟩
      case round =>
        clear HGt HF HM HN HB HMk HL0 HT0 hgg hltz t
        obtain ⟨q, hq, hgg, rfl, t, rfl, HGt, HF, HM, HT, HB⟩ := hrel
        by_cases hlt : q < 256
        · have hltz : (q : Int) < 256 := by omega
          obtain ⟨P, hP⟩ : ∃ P : Nat, q * sN = P := ⟨_, rfl⟩
          have hPe : (q : Int) * (sN : Int) = (P : Int) := by rw [← hP]; exact (Int.natCast_mul q sN).symm
          have hPb : P ≤ 65536 := by rw [← hP]; exact Nat.le_trans (Nat.mul_le_mul (show q ≤ 256 by omega) (show sN ≤ 256 by omega)) (by decide)
          obtain ⟨x, hx⟩ : ∃ x : Nat, P % 256 = x := ⟨_, rfl⟩
          have hxe : (P : Int) % 256 = (x : Int) := by omega
          have hxb : x < 256 := by omega
          have hxi : (x : Int) < 256 := by omega
          have HX := Lib.hid (show (q * sN) % 256 = x by rw [hP]; exact hx)
          clear hP hx
          have CT := Lib.hid (gtake_anyIu tk_ord G (G + 1) (x : Int) t wr HGt.out (by have := HT.out; omega) ⟨by omega, by omega⟩ (fun y hy => by
            obtain ⟨j, hj, rfl, _⟩ := (HM.out y).mp hy
            exact ⟨by show (-1000000 : Int) ≤ (j : Int); omega, by show (j : Int) ≤ 1000000; omega⟩))
          have HF3 := Lib.hid (HF.out.take cmp_sub (x : Int))
          have HM3 := Lib.hid (show ∀ p, p ∈ (takeT (fun a b : Int => a - b) (x : Int) t).list ↔ ∃ j : Nat, j < i ∧ p = ((j : Int), tkX mask j) ∧ ∀ i' : Nat, i' < q + 1 → (i' * sN) % 256 ≠ j from fun p => by
            rw [mem_take cmp_sub _ _ HF.out.rise, HM.out p]
            constructor
            · rintro ⟨⟨j, h1, rfl, h3⟩, h4⟩
              refine ⟨j, h1, rfl, fun i' hi' => ?_⟩
              by_cases e : i' = q
              · rw [e, HX.out]; intro f; apply h4; show (j : Int) = (x : Int); omega
              · exact h3 i' (by omega)
            · rintro ⟨j, h1, rfl, h3⟩
              exact ⟨⟨j, h1, rfl, fun i' hi' => h3 i' (by omega)⟩, fun f => h3 q (by omega) (by rw [HX.out]; have : (j : Int) = (x : Int) := f; omega)⟩)
          have HTM := Lib.hid (take_many cmp_sub (x : Int) t HF.out.rise)
          by_cases hxk : x < i
          · have hxkz : (x : Int) < (i : Int) := by omega
            have hin : ((x : Int), tkX mask x) ∈ t.list := (HM.out _).mpr ⟨x, hxk, rfl, fun i' hi' e => by
              have := turn_inj HR.out (show i' < 256 by omega) hlt (by rw [e, HX.out]); omega⟩
            obtain ⟨fa, fl, fr, hfe⟩ := find_yes cmp_sub HF.out hin
            rw [hfe, show valVIu (GT.node fa (tkX mask x) fl fr) = .int .u8 (bits .xor .u8 (x : Int) (mask : Int)) from rfl, show isV (GT.node fa (tkX mask x) fl fr) = true from rfl] at CT
            rw [hasK_yes cmp_sub hin, if_pos rfl] at HTM
            obtain ⟨t', ht'⟩ : ∃ t', takeT (fun a b : Int => a - b) (x : Int) t = t' := ⟨_, rfl⟩
            rw [ht'] at CT HF3 HM3 HTM
            have hleft : (t.many : Int) - 1 = (t'.many : Int) := by have := HTM.out; omega
            have hleb : (1 : Int) ≤ (t.many : Int) := by have := HTM.out; omega
            have hlec : (t.many : Int) ≤ 256 := by have := HT.out; omega
            have hld : t'.many ≤ 256 := by have := HTM.out; have := HT.out; omega
            have hlz : (t'.many : Int) ≤ 256 := by omega
            clear hin hfe ht'
            go_wp2_with fail
            refine CT.out.mono ?_
            rintro e w3 ⟨rfl, hg3, hc3⟩
            have HGt3 := Lib.hid hg3
            have HB3 := Lib.hid (HB.out.trans (hc3.below (Nat.le_refl G) (by have := HGt.out.hB; omega)))
            have CL := Lib.hid (glen_anyIu hg3 (by omega))
            have CD := Lib.hid (gdepth_anyIu hg3)
            clear hg3 hc3 CT
            go_wp2_with fail
            refine CL.out.mono ?_
            rintro e wz ⟨rfl, rfl⟩
            go_wp2_with fail
            refine CD.out.mono ?_
            rintro e wz ⟨rfl, rfl⟩
            go_wp2_with fail
            refine (len_bits t'.many (by omega) w3).mono ?_
            rintro e wz ⟨⟨L, rfl, hL1, hL2⟩, rfl⟩
            have hdd : (t'.deep : Int) ≤ 2 + 4 * (L : Int) := by have := deep_bits t' HF3.out.bal L hL1; omega
            have hdn : ¬ 2 + 4 * (L : Int) < (t'.deep : Int) := by omega
            have hLz : (L : Int) ≤ 16 := by omega
            clear hL1 hL2
            go_wp2_with fail
            go_roundg (256 - (q + 1))
            case measure => omega
            case rel => exact ⟨q + 1, by omega, by omega, by go_num, t', rfl, HGt3, HF3, HM3, Lib.hid hld, HB3⟩
          · have hxkz : ¬ (x : Int) < (i : Int) := by omega
            have hno : ∀ p ∈ t.list, p.1 ≠ (x : Int) := fun p hp => by
              obtain ⟨j, hj, rfl, _⟩ := (HM.out p).mp hp
              show (j : Int) ≠ (x : Int)
              omega
            have hfe := find_no cmp_sub HF.out hno
            rw [hfe, show valVIu (GT.nil : GT Int Int) = .int .u8 0 from rfl, show isV (GT.nil : GT Int Int) = false from rfl] at CT
            rw [hasK_no cmp_sub hno] at HTM
            obtain ⟨t', ht'⟩ : ∃ t', takeT (fun a b : Int => a - b) (x : Int) t = t' := ⟨_, rfl⟩
            rw [ht'] at CT HF3 HM3 HTM
            have hteq : t.many = t'.many := by have := HTM.out; simp only [Bool.false_eq_true, if_false] at this; omega
            rw [hteq]
            have hld : t'.many ≤ 256 := by have := HT.out; omega
            have hlz : (t'.many : Int) ≤ 256 := by omega
            clear hno hfe ht' hteq
            go_wp2_with fail
            refine CT.out.mono ?_
            rintro e w3 ⟨rfl, hg3, hc3⟩
            have HGt3 := Lib.hid hg3
            have HB3 := Lib.hid (HB.out.trans (hc3.below (Nat.le_refl G) (by have := HGt.out.hB; omega)))
            have CL := Lib.hid (glen_anyIu hg3 (by omega))
            have CD := Lib.hid (gdepth_anyIu hg3)
            clear hg3 hc3 CT
            go_wp2_with fail
            refine CL.out.mono ?_
            rintro e wz ⟨rfl, rfl⟩
            go_wp2_with fail
            refine CD.out.mono ?_
            rintro e wz ⟨rfl, rfl⟩
            go_wp2_with fail
            refine (len_bits t'.many (by omega) w3).mono ?_
            rintro e wz ⟨⟨L, rfl, hL1, hL2⟩, rfl⟩
            have hdd : (t'.deep : Int) ≤ 2 + 4 * (L : Int) := by have := deep_bits t' HF3.out.bal L hL1; omega
            have hdn : ¬ 2 + 4 * (L : Int) < (t'.deep : Int) := by omega
            have hLz : (L : Int) ≤ 16 := by omega
            clear hL1 hL2
            go_wp2_with fail
            go_roundg (256 - (q + 1))
            case measure => omega
            case rel => exact ⟨q + 1, by omega, by omega, by go_num, t', rfl, HGt3, HF3, HM3, Lib.hid hld, HB3⟩
        · have hltz : ¬ (q : Int) < 256 := by omega
          obtain rfl : q = 256 := by omega
          have hnil : t = .nil := list_nil fun p hp => by
            obtain ⟨j, h1, rfl, h3⟩ := (HM.out p).mp hp
            exact h3 ((j * r) % 256) (Nat.mod_lt _ (by decide)) (turn_onto HR.out (by omega))
          subst hnil
          obtain ⟨w8, hw8⟩ : ∃ w8, wr.alloc (.cells #[.int .i64 0] 3) = w8 := ⟨_, rfl⟩
          have hb8 : Below wr.heap.size wr w8 := hw8 ▸ (Below.refl _ _).alloc (Nat.le_refl _) _
          have hj8 : OneJ w8 wr.heap.size (.int .i64 0) w8 := ⟨by rw [← hw8]; simp, by rw [← hw8]; simp [go_sem], by rw [← hw8]; simp [go_sem], Chg.of_below (Below.refl _ _)⟩
          obtain ⟨a1, a2, p, a3, a4⟩ := HGt.out
          obtain rfl : p = none := a4
          have ha3 := (Array.getElem?_eq_some_iff.1 a3).1
          have k8 : w8.heap[G]? = _ := (hb8.block G ha3).trans a3
          have CW := Lib.hid (gwalk_anyIu (tk_see wr.heap.size w8) tk_ord G (fun s W h => ⟨by have := h.chg.size; have := hb8.size; omega, by rw [h.chg.cell (by have := hb8.size; omega) (by omega)]; exact cell_at k8 0⟩) (-1) (by constructor <;> decide) .nil none TrS.nil (fun q hq => by cases hq) 0 trivial w8 hj8 (by have := hb8.size; omega) (cell_at k8 1))
          have HE8 := Lib.hid (HGt.out.below hb8)
          have HB8 := Lib.hid (HB.out.trans (hb8.mono (by omega)))
          have HW8 := Lib.hid hw8
          have HGZ := Lib.hid (show G + 1 ≤ wr.heap.size from a2)
          clear hw8 hb8 hj8 a1 a2 a3 ha3 k8
          have hm0 : (GT.nil : GT Int Int).many = 0 := rfl
          rw [hm0]
          clear hm0
          go_wp2_with fail
          rw [HW8.out]
          refine CW.out.mono ?_
          rintro e w9 ⟨rfl, hj9⟩
          have hj9 : OneJ w8 wr.heap.size (.int .i64 0) w9 := hj9
          have c9 := hj9.cell
          have hc9 := hj9.chg
          have HE9 := Lib.hid (show GrIu _ (G + 1) w9 G .nil from by
            obtain ⟨a1, a2, p, a3, a4⟩ := HE8.out
            exact ⟨a1, by have := hc9.size; omega, p, by rw [hc9.block G (Array.getElem?_eq_some_iff.1 a3).1 (by have := HGZ.out; omega)]; exact a3, a4⟩)
          have HB9 := Lib.hid (HB8.out.trans (hc9.below (B := G) (by have := HGZ.out; omega) (by have := HE8.out.hB; omega)))
          have CA3 := Lib.hid (gdepth_anyIu HE9.out)
          have hd0 : (GT.nil : GT Int Int).deep = 0 := rfl
          rw [hd0] at CA3
          clear hj9 hc9 CW HE8 HB8 hd0
          go_wp2_with fail
          refine CA3.out.mono ?_
          rintro e wz ⟨rfl, rfl⟩
          go_wp2_with fail
          go_ret
          exact ⟨rfl, HB1.out.trans (HB9.out.mono (by have := HB1.out.size; have := HG.out; omega))⟩

theorem takes_args (a b c : Int) (ha : (Lit.int .u8 a).wf = true) (hb : (Lit.int .u8 b).wf = true) (hc : (Lit.int .u8 c).wf = true) (W : World) :
    Calls Try.prog 6 #[.int .u8 a, .int .u8 b, .int .u8 c] W fun e w' => e = .returned (.bool true) ∧ Below W.heap.size W w' := by
  obtain ⟨n, hn, rfl⟩ := nat_u8 ha
  obtain ⟨st, hst, rfl⟩ := nat_u8 hb
  obtain ⟨mask, hm, rfl⟩ := nat_u8 hc
  exact takes_walk n st mask hn hst hm W
end Go.Proofs.Ytaghflionakhhaa
