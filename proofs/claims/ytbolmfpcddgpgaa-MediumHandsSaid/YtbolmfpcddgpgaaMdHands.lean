/-
  MediumHands: the walk.
-/
import Derived.Test.YtbolmfpcddgpgaaMdKeeps
import Derived.Laws.Closers25b
namespace Go.Proofs.Ytbolmfpcddgpgaa
open Go.RowKit Go.Gz

/-- a row of one's own, beside a medium: when the medium grows it is left alone. -/
theorem Turned.row {w w1 : World} {B M : Nat} {vs vl : Value} {S L S' L' : List UInt8} (h : MedAt w B M vs vl S L) (ht : Turned w B M vs vl S' L' w1) :
    ∃ vs' vl', MedAt w1 B M vs' vl' S' L' ∧ Below B w w1 ∧ Kept (InF M vs vl) w w1 ∧ ∀ g, g < w.heap.size → ¬ InF M vs vl g → ¬ InF M vs' vl' g := by
  obtain ⟨vs', vl', h1, h2, h3⟩ := ht
  refine ⟨vs', vl', h1, h2.below (fun k hk => (h.low k hk).1) h.hB, h2, fun g hgw hg e => ?_⟩
  rcases h3 g e with h4 | h4
  · exact hg h4
  · omega
theorem Mut.keep {w w' : World} {q : Option Addr} {n g : Nat} (h : Mut w q n g) (hk : n ≠ 0 → w'.heap[g]? = w.heap[g]?) : Mut w' q n g := by
  rcases h with h | ⟨h, cs, hh, hc⟩
  · exact Or.inl h
  · by_cases h0 : n = 0
    · exact Or.inl h0
    · exact Or.inr ⟨h, cs, (hk h0).trans hh, hc⟩
theorem Mut.lt {w : World} {q : Option Addr} {n g : Nat} (h : Mut w q n g) (hn : n ≠ 0) : g < w.heap.size := by
  rcases h with h | ⟨_, cs, hh, _⟩
  · exact absurd h hn
  · exact (Array.getElem?_eq_some_iff.1 hh).1

set_option maxHeartbeats 8000000 in
set_option maxRecDepth 1000000 in
theorem hands_walk (a b : List UInt8) (pa pb : Option Addr) (ca cb : Nat) (W : World) (ha : Row W .u8 pa (nums a)) (hb : Row W .u8 pb (nums b)) (hpa : pa = none → ca = 0) (hpb : pb = none → cb = 0)
    (hla : a.length ≤ 9223372036854775807) (hlb : b.length ≤ 9223372036854775807) :
    Calls Try.prog 6 #[.slice pa a.length ca, .slice pb b.length cb] W fun e w' => e = .returned (.bool true) ∧ Below W.heap.size W w' := by
  have mx := mixedMd
  have CA := Lib.hid (awake_yes W)
  obtain ⟨na, hna⟩ : ∃ n, a.length = n := ⟨_, rfl⟩
  obtain ⟨nb, hnb⟩ : ∃ n, b.length = n := ⟨_, rfl⟩
  have HN := Lib.hid (And.intro hna hnb)
  have HA := Lib.hid (And.intro ha hpa)
  have HBb := Lib.hid (And.intro hb hpb)
  rw [hna] at hla ⊢
  rw [hnb] at hlb ⊢
  clear ha hb hpa hpb hna hnb
  by_cases hbig : 500 < na
  · have hbz : (500 : Int) < (na : Int) := by omega
    clear hla hlb
    go_enter Try.func6, Try.ntmps6
    go_wp2_with fail
    refine CA.out.mono ?_
    rintro e w1 ⟨rfl, hb1⟩
    go_wp2_with fail
    go_ret
    exact ⟨rfl, hb1⟩
  · have hbz : decide ((500 : Int) < (na : Int)) = false := decide_eq_false (by omega)
    by_cases hbig2 : 500 < nb
    · have hbz2 : (500 : Int) < (nb : Int) := by omega
      clear hla hlb
      go_enter Try.func6, Try.ntmps6
      go_wp2_with fail
      refine CA.out.mono ?_
      rintro e w1 ⟨rfl, hb1⟩
      go_wp2_with fail
      go_ret
      exact ⟨rfl, hb1⟩
    · have hbz2 : decide ((500 : Int) < (nb : Int)) = false := decide_eq_false (by omega)
      have HL := Lib.hid (show na ≤ 500 ∧ nb ≤ 500 from by omega)
      have hnaz : (na : Int) ≤ 500 := by omega
      have hnbz : (nb : Int) ≤ 500 := by omega
      clear hla hlb hbig hbig2
      go_enter Try.func6, Try.ntmps6
      go_wp2_with fail
      refine CA.out.mono ?_
      rintro e w ⟨rfl, hb0⟩
      have HB0 := Lib.hid hb0
      have HZ0 := Lib.hid hb0.size
      have C0 := Lib.hid (new_any w)
      clear hb0 CA
      go_wp2_with fail
      refine C0.out.mono ?_
      rintro e w1 ⟨rfl, hm, hb⟩
      have HM1 := Lib.hid hm
      have HB1 := Lib.hid (HB0.out.trans (hb.mono HZ0.out))
      have HO1 := Lib.hid (own_empty8 w1 w1.heap.size (Nat.le_refl _))
      clear hm hb C0
      go_wp2_with (at_builtin; refine wpList_own_row rfl _ _ 28 rfl 5 .u8 1 Try.underlying28 info_byte (by decide) w1.heap.size _ [] rfl HO1.out pa ca (nums a) (by rw [nums_length, HN.out.1]; rfl) (HA.out.1.below (HB1.out.alloc HB1.out.size _)) HA.out.2 (by rw [nums_length, HN.out.1]; have := HL.out; simp; omega) (by simp) ?_)
      intro v2 w2 hown hgrow
      have hb2 : Below w1.heap.size w1 w2 := ((Below.refl _ _).alloc (Nat.le_refl _) (.cells #[] 5)).grown hgrow (by simp) (fun g hg => HO1.out.lt g hg)
      have hown' : Own w2 w1.heap.size 5 .u8 v2 (nums a) := hown
      obtain ⟨qx, dx, rfl, -, hqx, hrx⟩ := own_row hown'
      rw [nums_length, HN.out.1] at hown' ⊢
      obtain ⟨gx, hgx, hmx, hgq⟩ := Mut.of hown' hb2.size
      have hm2 := HM1.out.below hb2
      have HM2 := Lib.hid hm2
      have hnx : na ≠ 0 → gx < w2.heap.size ∧ ¬ InF w.heap.size (.slice none 0 0) (.slice none 0 0) gx := fun h => ⟨hmx.lt h, fun e => by
        have := (HM1.out.low gx e).2
        omega⟩
      have HX2 := Lib.hid (And.intro hmx (And.intro hgx hnx))
      have C2 := Lib.hid (append_any hm2 a (by simp; have := HN.out; have := HL.out; omega) na HN.out.1 qx dx hrx hqx)
      have HB2 := Lib.hid (HB1.out.trans (hb2.mono HB1.out.size))
      have HZ12 := Lib.hid (show w.heap.size ≤ w1.heap.size from HM1.out.hB)
      clear hown hown' hgrow hb2 hqx hrx hgx hmx hgq hm2 hnx HO1 HM1
      go_wp2_with fail
      refine C2.out.mono ?_
      rintro e w3 ⟨rfl, ht⟩
      obtain ⟨vs3, vl3, hm3, hb3, hk3, hn3⟩ := Turned.row HM2.out ht
      have HM3 := Lib.hid hm3
      have HB3 := Lib.hid (HB2.out.trans (hb3.mono HZ0.out))
      have HX3 := Lib.hid (show na ≠ 0 → ¬ InF w.heap.size vs3 vl3 gx from fun h => hn3 gx (HX2.out.2.2 h).1 (HX2.out.2.2 h).2)
      have HMut := Lib.hid (show Mut w3 qx na gx from HX2.out.1.keep fun h => hk3.block gx (HX2.out.2.2 h).1 (HX2.out.2.2 h).2)
      clear ht hm3 hb3 hk3 hn3 C2 HM2
      go_wp2_with fail
      go_loopw [7] (fun i wr => ∃ j : Nat, i = .int .i64 j ∧ j ≤ na ∧ Hid (Mut wr qx na gx) ∧ Hid (Kept (fun k => na ≠ 0 ∧ k = gx) w3 wr)) (fun i _ => na - (intOf i).toNat)
      case atStart => exact ⟨0, rfl, Nat.zero_le _, HMut, Lib.hid (Kept.refl _ _)⟩
      case round =>
        obtain ⟨j, rfl, hj, hmr, hkr⟩ := hrel
        by_cases hlt : j < na
        · obtain ⟨hq, ⟨x, hx⟩, hf⟩ := hmr.out.at hlt
          have hjz : (j : Int) < (na : Int) := by omega
          subst hq
          go_wp2_with fail
          go_roundw
          case rel =>
            obtain ⟨y, hy⟩ := u8_of (bits BinOp.xor IntKind.u8 (x.toNat : Int) 255) (bits_lo_u8 _ _ _) (bits_hi_u8 _ _ _)
            exact ⟨j + 1, by go_num, by omega, Lib.hid (by rw [hy]; exact hmr.out.set hlt y), Lib.hid (hkr.out.trans (Kept.set (F := fun k => na ≠ 0 ∧ k = gx) (a := ⟨gx, j, none⟩) _ ⟨by omega, rfl⟩) fun _ _ e => e)⟩
          case measure => simp [intOf]; omega
        · have hjz : ¬ (j : Int) < (na : Int) := by omega
          have hm4 : MedAt wr w.heap.size w.heap.size vs3 vl3 [] a := HM3.out.kept hkr.out fun k hk e => HX3.out e.1 (e.2 ▸ hk)
          have hb4 : Below w.heap.size w3 wr := hkr.out.below (fun k e => by
            have h1 := HX2.out.2.1
            have h2 := HZ12.out
            have h3 : k = gx := e.2
            omega) HM3.out.hB
          have HM4 := Lib.hid (show Med wr w.heap.size w.heap.size [] a from ⟨_, _, hm4⟩)
          have HB4 := Lib.hid (HB3.out.trans (hb4.mono HZ0.out))
          have HM4' := Lib.hid hm4
          obtain ⟨w4, hw4⟩ : ∃ w4, w4 = wr := ⟨_, rfl⟩
          rw [← hw4] at HM4 HB4 HM4'
          have C4 := Lib.hid (med_bytes HM4.out (by simp) (by have := HN.out; have := HL.out; omega) na (by simp [HN.out.1]))
          rw [List.nil_append] at C4
          rw [← hw4]
          have HZ4 := Lib.hid (show W.heap.size ≤ w4.heap.size from HB4.out.size)
          clear hmr hkr hm4 hb4 hlt hj hw4
          go_wp2_with fail
          refine C4.out.mono ?_
          rintro e w5 ⟨qy, dy, rfl, ho, -, hb5⟩
          obtain ⟨gy, hgy, hmy, -⟩ := Mut.of ho hb5.size
          have HMy := Lib.hid hmy
          have HGy := Lib.hid hgy
          have HB5 := Lib.hid hb5
          clear ho hb5 hmy hgy C4
          go_wp2_with fail
          go_loopw [9] (fun i wr => ∃ j : Nat, i = .int .i64 j ∧ j ≤ na ∧ Hid (Mut wr qy na gy) ∧ Hid (Below w4.heap.size w4 wr)) (fun i _ => na - (intOf i).toNat)
          case atStart => exact ⟨0, rfl, Nat.zero_le _, HMy, HB5⟩
          case round =>
            obtain ⟨i, rfl, hi, hmr, hbr⟩ := hrel
            by_cases hlt : i < na
            · obtain ⟨hq, ⟨x, hx⟩, hf⟩ := hmr.out.at hlt
              have hiz : (i : Int) < (na : Int) := by omega
              subst hq
              go_wp2_with fail
              go_roundw
              case rel =>
                obtain ⟨y, hy⟩ := u8_of (bits BinOp.xor IntKind.u8 (x.toNat : Int) 15) (bits_lo_u8 _ _ _) (bits_hi_u8 _ _ _)
                exact ⟨i + 1, by go_num, by omega, Lib.hid (by rw [hy]; exact hmr.out.set hlt y), Lib.hid (hbr.out.setCell HGy.out _)⟩
              case measure => simp [intOf]; omega
            · have hiz : ¬ (i : Int) < (na : Int) := by omega
              obtain ⟨w6, hw6⟩ : ∃ w6, w6 = wr := ⟨_, rfl⟩
              rw [← hw6] at hbr
              rw [← hw6]
              have HM6 := Lib.hid (HM4'.out.below hbr.out)
              have HB6 := Lib.hid (HB4.out.trans (hbr.out.mono HZ4.out))
              have HZ6 := Lib.hid (show W.heap.size ≤ w6.heap.size from HB6.out.size)
              have C6 := Lib.hid (copy_any HM6.out (by simp) (by have := HN.out; have := HL.out; omega))
              clear hmr hbr hi hlt hw6
              go_wp2_with fail
              refine C6.out.mono ?_
              rintro e w7 ⟨C, u, v, rfl, hc, hb7⟩
              have HB7 := Lib.hid (HB6.out.trans (hb7.mono HZ6.out))
              have HB67 := Lib.hid hb7
              have C7 := Lib.hid (append_any hc b (by have := HN.out; have := HL.out; omega) nb HN.out.2 pb cb (HBb.out.1.below HB7.out) HBb.out.2)
              have HC7 := Lib.hid hc
              clear hc hb7 C6
              go_wp2_with fail
              refine C7.out.mono ?_
              rintro e w8 ⟨rfl, ht⟩
              obtain ⟨uc, vc, hc8, hb8, -, -⟩ := Turned.row HC7.out ht
              have HC8 := Lib.hid hc8
              have HB68 := Lib.hid (HB67.out.trans hb8)
              have HB8 := Lib.hid (HB6.out.trans (HB68.out.mono HZ6.out))
              have HO8 := Lib.hid (own_empty8 w8 w8.heap.size (Nat.le_refl _))
              clear ht hc8 hb8 C7 HC7
              go_wp2_with (at_builtin; refine wpList_own_row rfl _ _ 28 rfl 5 .u8 1 Try.underlying28 info_byte (by decide) w8.heap.size _ [] rfl HO8.out pb cb (nums b) (by rw [nums_length, HN.out.2]; rfl) (HBb.out.1.below (HB8.out.alloc HB8.out.size _)) HBb.out.2 (by rw [nums_length, HN.out.2]; have := HL.out; simp; omega) (by simp) ?_)
              intro v9 w9 hown hgrow
              have hb9 : Below w8.heap.size w8 w9 := ((Below.refl _ _).alloc (Nat.le_refl _) (.cells #[] 5)).grown hgrow (by simp) (fun g hg => HO8.out.lt g hg)
              have hown' : Own w9 w8.heap.size 5 .u8 v9 (nums b) := hown
              obtain ⟨qz, dz, rfl, -, hqz, hrz⟩ := own_row hown'
              rw [nums_length, HN.out.2] at hown' ⊢
              obtain ⟨gz, hgz, hmz, -⟩ := Mut.of hown' hb9.size
              have HZ68 := Lib.hid (show w6.heap.size ≤ w8.heap.size from HB68.out.size)
              have HM9 := Lib.hid (HM6.out.below (HB68.out.trans (hb9.mono HZ68.out)))
              have HC9 := Lib.hid (HC8.out.below hb9)
              have HB9 := Lib.hid (HB8.out.trans (hb9.mono HB8.out.size))
              have HZ9 := Lib.hid (show W.heap.size ≤ w9.heap.size from HB9.out.size)
              have HMz := Lib.hid (And.intro hmz (And.intro hgz (And.intro hrz hqz)))
              have C9 := Lib.hid (bytes_any HM9.out (by simp) (by have := HN.out; have := HL.out; omega))
              rw [List.nil_append] at C9
              clear hown hown' hgrow hb9 hgz hmz hrz hqz HO8
              go_wp2_with fail
              refine C9.out.mono ?_
              rintro e w10 ⟨v10, rfl, ho, hb10⟩
              obtain ⟨q10, d10, rfl, hs10⟩ := own_string ho (Below.refl _ _)
              have HM10 := Lib.hid (HM9.out.below hb10)
              have HC10 := Lib.hid (HC9.out.below hb10)
              have HB10 := Lib.hid (HB9.out.trans (hb10.mono HZ9.out))
              have HMz10 := Lib.hid (show Mut w10 qz nb gz ∧ Row w10 .u8 qz (nums b) from ⟨HMz.out.1.keep fun h => hb10.block gz (HMz.out.1.lt h), HMz.out.2.2.1.below hb10⟩)
              have C10 := Lib.hid (swap_any HM10.out b (by have := HN.out; have := HL.out; omega) nb HN.out.2 qz dz HMz10.out.2 HMz.out.2.2.2)
              clear ho hb10 C9
              go_wp2_with fail
              refine C10.out.mono ?_
              rintro e w11 ⟨rfl, ht⟩
              obtain ⟨vsm, vlm, hm11, hb11, hk11, hn11⟩ := Turned.row HM10.out ht
              have hlow : ∀ k, InF w.heap.size vs3 vl3 k → k < w6.heap.size := fun k hk => (HM6.out.low k hk).2
              have HC11 := Lib.hid (HC10.out.kept hk11 fun k hk e => by
                have h1 := (HC10.out.low k hk).1
                have h2 := hlow k e
                omega)
              have hgz8 := HMz.out.2.1
              have HM11 := Lib.hid hm11
              have HB11 := Lib.hid (HB10.out.trans (hb11.mono HZ0.out))
              have HZn := Lib.hid (show nb ≠ 0 → ¬ InF w.heap.size vsm vlm gz from fun h => hn11 gz (HMz10.out.1.lt h) fun e => by
                have h2 := hlow gz e
                have h3 := HZ68.out
                omega)
              have HZc := Lib.hid (show ¬ InF C uc vc gz from fun e => by
                have h2 := (HC8.out.low gz e).2
                omega)
              have HMz11 := Lib.hid (show Mut w11 qz nb gz from HMz10.out.1.keep fun h => hk11.block gz (HMz10.out.1.lt h) fun e => by
                have h2 := hlow gz e
                have h3 := HZ68.out
                omega)
              have HGz := Lib.hid (show W.heap.size ≤ gz from by have h4 := HB8.out.size; omega)
              clear ht hm11 hb11 hk11 hn11 hlow hgz8 C10
              go_wp2_with fail
              go_loopw [13] (fun i wr => ∃ j : Nat, i = .int .i64 j ∧ j ≤ nb ∧ Hid (Mut wr qz nb gz) ∧ Hid (Kept (fun k => nb ≠ 0 ∧ k = gz) w11 wr)) (fun i _ => nb - (intOf i).toNat)
              case atStart => exact ⟨0, rfl, Nat.zero_le _, HMz11, Lib.hid (Kept.refl _ _)⟩
              case round =>
                obtain ⟨o, rfl, ho, hmr, hkr⟩ := hrel
                by_cases hlt : o < nb
                · obtain ⟨hq, ⟨x, hx⟩, hf⟩ := hmr.out.at hlt
                  have hoz : (o : Int) < (nb : Int) := by omega
                  subst hq
                  go_wp2_with fail
                  go_roundw
                  case rel =>
                    obtain ⟨y, hy⟩ := u8_of (((x.toNat : Int) + 1) % 256) (by omega) (by omega)
                    exact ⟨o + 1, by go_num, by omega, Lib.hid (by rw [hy]; exact hmr.out.set hlt y), Lib.hid (hkr.out.trans (Kept.set (F := fun k => nb ≠ 0 ∧ k = gz) (a := ⟨gz, o, none⟩) _ ⟨by omega, rfl⟩) fun _ _ e => e)⟩
                  case measure => simp [intOf]; omega
                · have hoz : ¬ (o : Int) < (nb : Int) := by omega
                  obtain ⟨w12, hw12⟩ : ∃ w12, w12 = wr := ⟨_, rfl⟩
                  rw [← hw12] at hkr
                  rw [← hw12]
                  have HM12 := Lib.hid (HM11.out.kept hkr.out fun k hk e => HZn.out e.1 (e.2 ▸ hk))
                  have HC12 := Lib.hid (HC11.out.kept hkr.out fun k hk e => HZc.out (e.2 ▸ hk))
                  have HB12 := Lib.hid (HB11.out.trans (hkr.out.below (B := W.heap.size) (fun k e => by
                    have h1 := HGz.out
                    have h3 : k = gz := e.2
                    omega) HB11.out.size))
                  obtain ⟨X, hX⟩ : ∃ X, a ++ b = X := ⟨_, rfl⟩
                  have HXS := Lib.hid (show (⟨a.toArray⟩ : ByteArray) ++ ⟨b.toArray⟩ = ⟨X.toArray⟩ from by
                    rw [← hX]
                    apply ByteArray.ext
                    simp)
                  have CM := Lib.hid (fun w' (hb : Below w12.heap.size w12 w') => bytes_any (HM12.out.below hb) (by have := HN.out; have := HL.out; omega) (by simp))
                  rw [List.append_nil] at CM
                  have CC := Lib.hid (fun w' (hb : Below w12.heap.size w12 w') => bytes_any (HC12.out.below hb) (by simp) (by rw [List.length_append]; have := HN.out; have := HL.out; omega))
                  rw [List.nil_append, hX] at CC
                  have HS := Lib.hid (fun w' (hb : Below w12.heap.size w12 w') => show (convert 28 9 (.slice pa na ca)).run Try.prog w' = .ok (.string ⟨a.toArray⟩) w' ∧ (convert 28 9 (.slice pb nb cb)).run Try.prog w' = .ok (.string ⟨b.toArray⟩) w' from by
                    have h1 := run_string w' a pa ca (HA.out.1.below (HB12.out.trans (hb.mono HB12.out.size)))
                    have h2 := run_string w' b pb cb (HBb.out.1.below (HB12.out.trans (hb.mono HB12.out.size)))
                    rw [HN.out.1] at h1
                    rw [HN.out.2] at h2
                    exact ⟨h1, h2⟩)
                  clear hmr hkr ho hlt hw12 HM10 HC10 HM9 HC9 HM6 hX hs10
                  go_wp2_with fail
                  refine wp_region_mono mx (by kernel_rfl) [VP.eq (.string ⟨a.toArray⟩), VP.eq (.slice pa na ca), VP.eq (.string ⟨a.toArray⟩), VP.eq (.bool true), VP.eq (.bool true), VP.eq (.pointer (some ⟨w.heap.size, 0, none⟩)), ownVP W.heap.size b, VP.eq (.string ⟨b.toArray⟩), VP.eq (.slice pb nb cb), VP.eq (.string ⟨b.toArray⟩), VP.eq (.bool true), VP.eq (.bool true), VP.eq (.bool true), VP.eq (.pointer (some ⟨C, 0, none⟩)), ownVP W.heap.size X, VP.eq (.string ⟨X.toArray⟩), VP.eq (.slice pa na ca), VP.eq (.string ⟨a.toArray⟩), VP.eq (.slice pb nb cb), VP.eq (.string ⟨b.toArray⟩), VP.eq (.string ⟨X.toArray⟩), VP.eq (.bool true), VP.eq (.bool true), VP.eq (.bool true)] ?_ ?_
                  · intro i o L vals w' hi hL hdep hC hJ hV
                    have hlt : i < 24 := by have := (List.getElem?_eq_some_iff.1 hi).1; simpa using this
                    generalize hA : frA _ _ L vals = a'
                    have hT0 : a'.tmps.getD 0 undef = .slice pa na ca := by rw [← hA, frA_base (by kernel_rfl)]; rfl
                    have hT1 : a'.tmps.getD 1 undef = .slice pb nb cb := by rw [← hA, frA_base (by kernel_rfl)]; rfl
                    have hT5 : a'.tmps.getD 5 undef = .pointer (some ⟨w.heap.size, 0, none⟩) := by rw [← hA, frA_base (by kernel_rfl)]; rfl
                    have hT10 : a'.tmps.getD 10 undef = .pointer (some ⟨C, 0, none⟩) := by rw [← hA, frA_base (by kernel_rfl)]; rfl
                    have hT12 : a'.tmps.getD 12 undef = .string ⟨a.toArray⟩ := by rw [← hA, frA_base (by kernel_rfl)]; rfl
                    have hD := Lib.hid (fun k t (hk : L k = true) (ht : dstOf _ k = some t) => hA ▸ frA_done (by kernel_rfl) (vals := vals) hk ht)
                    clear hA
                    obtain rfl | rfl | rfl | rfl | rfl | rfl | rfl | rfl | rfl | rfl | rfl | rfl | rfl | rfl | rfl | rfl | rfl | rfl | rfl | rfl | rfl | rfl | rfl | rfl : i = 0 ∨ i = 1 ∨ i = 2 ∨ i = 3 ∨ i = 4 ∨ i = 5 ∨ i = 6 ∨ i = 7 ∨ i = 8 ∨ i = 9 ∨ i = 10 ∨ i = 11 ∨ i = 12 ∨ i = 13 ∨ i = 14 ∨ i = 15 ∨ i = 16 ∨ i = 17 ∨ i = 18 ∨ i = 19 ∨ i = 20 ∨ i = 21 ∨ i = 22 ∨ i = 23 := by omega
                    all_goals
                      injection hi with hi
                      subst hi
                      try simp [Region.binds] at hdep
                    · exact step_run rfl (v := .string ⟨a.toArray⟩) (w' := w') (by go_simp) ⟨rfl, Below.refl _ _⟩
                    · exact step_run rfl (v := .slice pa na ca) (w' := w') (by go_simp) ⟨rfl, Below.refl _ _⟩
                    · have d86 := hD.out 1 86 (by simp [hdep]) rfl
                      rw [show vals 1 = .slice pa na ca from hV 1 (by simp [hdep])] at d86
                      have hs := (HS.out w' hJ).1
                      exact step_run rfl (v := .string ⟨a.toArray⟩) (w' := w') (by go_simp) ⟨rfl, Below.refl _ _⟩
                    · have d85 := hD.out 0 85 (by simp [hdep]) rfl
                      rw [show vals 0 = .string ⟨a.toArray⟩ from hV 0 (by simp [hdep])] at d85
                      have d87 := hD.out 2 87 (by simp [hdep]) rfl
                      rw [show vals 2 = .string ⟨a.toArray⟩ from hV 2 (by simp [hdep])] at d87
                      exact step_run rfl (v := .bool true) (w' := w') (by go_simp) ⟨rfl, Below.refl _ _⟩
                    · have d88 := hD.out 3 88 (by simp [hdep]) rfl
                      rw [show vals 3 = .bool true from hV 3 (by simp [hdep])] at d88
                      exact step_run rfl (v := .bool true) (w' := w') (by go_simp) ⟨rfl, Below.refl _ _⟩
                    · have d89 := hD.out 4 89 (by simp [hdep]) rfl
                      rw [show vals 4 = .bool true from hV 4 (by simp [hdep])] at d89
                      exact step_run' (wanted_open rfl rfl d89) (v := .pointer (some ⟨w.heap.size, 0, none⟩)) (w' := w') (by go_simp) ⟨rfl, Below.refl _ _⟩
                    · have d90 := hD.out 5 90 (by simp [hdep]) rfl
                      rw [show vals 5 = .pointer (some ⟨w.heap.size, 0, none⟩) from hV 5 (by simp [hdep])] at d90
                      have d89 := hD.out 4 89 (by simp [hdep]) rfl
                      rw [show vals 4 = .bool true from hV 4 (by simp [hdep])] at d89
                      refine step_enter' (wanted_open rfl rfl d89) (w' := w') (by go_simp) ((CM.out w' hJ).mono ?_)
                      rintro e x ⟨v, rfl, ho, hb⟩
                      exact ⟨_, rfl, own_mono ho (by have := hJ.size; have := HB12.out.size; omega), hb⟩
                    · have d91 := hD.out 6 91 (by simp [hdep]) rfl
                      have d89 := hD.out 4 89 (by simp [hdep]) rfl
                      rw [show vals 4 = .bool true from hV 4 (by simp [hdep])] at d89
                      obtain ⟨q, d, e, hs⟩ := own_string (hV 6 (by simp [hdep])) (Below.refl _ w')
                      rw [e] at d91 hs
                      exact step_run' (wanted_open rfl rfl d89) (v := .string ⟨b.toArray⟩) (w' := w') (by go_simp) ⟨rfl, Below.refl _ _⟩
                    · have d89 := hD.out 4 89 (by simp [hdep]) rfl
                      rw [show vals 4 = .bool true from hV 4 (by simp [hdep])] at d89
                      exact step_run' (wanted_open rfl rfl d89) (v := .slice pb nb cb) (w' := w') (by go_simp) ⟨rfl, Below.refl _ _⟩
                    · have d93 := hD.out 8 93 (by simp [hdep]) rfl
                      rw [show vals 8 = .slice pb nb cb from hV 8 (by simp [hdep])] at d93
                      have d89 := hD.out 4 89 (by simp [hdep]) rfl
                      rw [show vals 4 = .bool true from hV 4 (by simp [hdep])] at d89
                      have hs := (HS.out w' hJ).2
                      exact step_run' (wanted_open rfl rfl d89) (v := .string ⟨b.toArray⟩) (w' := w') (by go_simp) ⟨rfl, Below.refl _ _⟩
                    · have d92 := hD.out 7 92 (by simp [hdep]) rfl
                      rw [show vals 7 = .string ⟨b.toArray⟩ from hV 7 (by simp [hdep])] at d92
                      have d94 := hD.out 9 94 (by simp [hdep]) rfl
                      rw [show vals 9 = .string ⟨b.toArray⟩ from hV 9 (by simp [hdep])] at d94
                      have d89 := hD.out 4 89 (by simp [hdep]) rfl
                      rw [show vals 4 = .bool true from hV 4 (by simp [hdep])] at d89
                      exact step_run' (wanted_open rfl rfl d89) (v := .bool true) (w' := w') (by go_simp) ⟨rfl, Below.refl _ _⟩
                    · have d89 := hD.out 4 89 (by simp [hdep]) rfl
                      rw [show vals 4 = .bool true from hV 4 (by simp [hdep])] at d89
                      have d95 := hD.out 10 95 (by simp [hdep]) rfl
                      rw [show vals 10 = .bool true from hV 10 (by simp [hdep])] at d95
                      exact step_run rfl (v := .bool true) (w' := w') (by go_simp) ⟨rfl, Below.refl _ _⟩
                    · have d96 := hD.out 11 96 (by simp [hdep]) rfl
                      rw [show vals 11 = .bool true from hV 11 (by simp [hdep])] at d96
                      exact step_run rfl (v := .bool true) (w' := w') (by go_simp) ⟨rfl, Below.refl _ _⟩
                    · have d97 := hD.out 12 97 (by simp [hdep]) rfl
                      rw [show vals 12 = .bool true from hV 12 (by simp [hdep])] at d97
                      exact step_run' (wanted_open rfl rfl d97) (v := .pointer (some ⟨C, 0, none⟩)) (w' := w') (by go_simp) ⟨rfl, Below.refl _ _⟩
                    · have d98 := hD.out 13 98 (by simp [hdep]) rfl
                      rw [show vals 13 = .pointer (some ⟨C, 0, none⟩) from hV 13 (by simp [hdep])] at d98
                      have d97 := hD.out 12 97 (by simp [hdep]) rfl
                      rw [show vals 12 = .bool true from hV 12 (by simp [hdep])] at d97
                      refine step_enter' (wanted_open rfl rfl d97) (w' := w') (by go_simp) ((CC.out w' hJ).mono ?_)
                      rintro e x ⟨v, rfl, ho, hb⟩
                      exact ⟨_, rfl, own_mono ho (by have := hJ.size; have := HB12.out.size; omega), hb⟩
                    · have d99 := hD.out 14 99 (by simp [hdep]) rfl
                      have d97 := hD.out 12 97 (by simp [hdep]) rfl
                      rw [show vals 12 = .bool true from hV 12 (by simp [hdep])] at d97
                      obtain ⟨q, d, e, hs⟩ := own_string (hV 14 (by simp [hdep])) (Below.refl _ w')
                      rw [e] at d99 hs
                      exact step_run' (wanted_open rfl rfl d97) (v := .string ⟨X.toArray⟩) (w' := w') (by go_simp) ⟨rfl, Below.refl _ _⟩
                    · have d97 := hD.out 12 97 (by simp [hdep]) rfl
                      rw [show vals 12 = .bool true from hV 12 (by simp [hdep])] at d97
                      exact step_run' (wanted_open rfl rfl d97) (v := .slice pa na ca) (w' := w') (by go_simp) ⟨rfl, Below.refl _ _⟩
                    · have d101 := hD.out 16 101 (by simp [hdep]) rfl
                      rw [show vals 16 = .slice pa na ca from hV 16 (by simp [hdep])] at d101
                      have d97 := hD.out 12 97 (by simp [hdep]) rfl
                      rw [show vals 12 = .bool true from hV 12 (by simp [hdep])] at d97
                      have hs := (HS.out w' hJ).1
                      exact step_run' (wanted_open rfl rfl d97) (v := .string ⟨a.toArray⟩) (w' := w') (by go_simp) ⟨rfl, Below.refl _ _⟩
                    · have d97 := hD.out 12 97 (by simp [hdep]) rfl
                      rw [show vals 12 = .bool true from hV 12 (by simp [hdep])] at d97
                      exact step_run' (wanted_open rfl rfl d97) (v := .slice pb nb cb) (w' := w') (by go_simp) ⟨rfl, Below.refl _ _⟩
                    · have d103 := hD.out 18 103 (by simp [hdep]) rfl
                      rw [show vals 18 = .slice pb nb cb from hV 18 (by simp [hdep])] at d103
                      have d97 := hD.out 12 97 (by simp [hdep]) rfl
                      rw [show vals 12 = .bool true from hV 12 (by simp [hdep])] at d97
                      have hs := (HS.out w' hJ).2
                      exact step_run' (wanted_open rfl rfl d97) (v := .string ⟨b.toArray⟩) (w' := w') (by go_simp) ⟨rfl, Below.refl _ _⟩
                    · have d102 := hD.out 17 102 (by simp [hdep]) rfl
                      rw [show vals 17 = .string ⟨a.toArray⟩ from hV 17 (by simp [hdep])] at d102
                      have d104 := hD.out 19 104 (by simp [hdep]) rfl
                      rw [show vals 19 = .string ⟨b.toArray⟩ from hV 19 (by simp [hdep])] at d104
                      have d97 := hD.out 12 97 (by simp [hdep]) rfl
                      rw [show vals 12 = .bool true from hV 12 (by simp [hdep])] at d97
                      exact step_run' (wanted_open rfl rfl d97) (v := .string ⟨X.toArray⟩) (w' := w') (by go_simp; have h1 := HN.out; have h2 := HL.out; rw [if_neg (by omega), HXS.out]) ⟨rfl, Below.refl _ _⟩
                    · have d100 := hD.out 15 100 (by simp [hdep]) rfl
                      rw [show vals 15 = .string ⟨X.toArray⟩ from hV 15 (by simp [hdep])] at d100
                      have d105 := hD.out 20 105 (by simp [hdep]) rfl
                      rw [show vals 20 = .string ⟨X.toArray⟩ from hV 20 (by simp [hdep])] at d105
                      have d97 := hD.out 12 97 (by simp [hdep]) rfl
                      rw [show vals 12 = .bool true from hV 12 (by simp [hdep])] at d97
                      exact step_run' (wanted_open rfl rfl d97) (v := .bool true) (w' := w') (by go_simp) ⟨rfl, Below.refl _ _⟩
                    · have d97 := hD.out 12 97 (by simp [hdep]) rfl
                      rw [show vals 12 = .bool true from hV 12 (by simp [hdep])] at d97
                      have d106 := hD.out 21 106 (by simp [hdep]) rfl
                      rw [show vals 21 = .bool true from hV 21 (by simp [hdep])] at d106
                      exact step_run rfl (v := .bool true) (w' := w') (by go_simp) ⟨rfl, Below.refl _ _⟩
                    · have d107 := hD.out 22 107 (by simp [hdep]) rfl
                      rw [show vals 22 = .bool true from hV 22 (by simp [hdep])] at d107
                      exact step_run rfl (v := .bool true) (w' := w') (by go_simp) ⟨rfl, Below.refl _ _⟩
                  · intro vals w' hJ hV
                    have e0 : vals 0 = .string ⟨a.toArray⟩ := hV 0 (by decide)
                    have e1 : vals 1 = .slice pa na ca := hV 1 (by decide)
                    have e2 : vals 2 = .string ⟨a.toArray⟩ := hV 2 (by decide)
                    have e3 : vals 3 = .bool true := hV 3 (by decide)
                    have e4 : vals 4 = .bool true := hV 4 (by decide)
                    have e5 : vals 5 = .pointer (some ⟨w.heap.size, 0, none⟩) := hV 5 (by decide)
                    have q6 := hV 6 (by decide)
                    have e7 : vals 7 = .string ⟨b.toArray⟩ := hV 7 (by decide)
                    have e8 : vals 8 = .slice pb nb cb := hV 8 (by decide)
                    have e9 : vals 9 = .string ⟨b.toArray⟩ := hV 9 (by decide)
                    have e10 : vals 10 = .bool true := hV 10 (by decide)
                    have e11 : vals 11 = .bool true := hV 11 (by decide)
                    have e12 : vals 12 = .bool true := hV 12 (by decide)
                    have e13 : vals 13 = .pointer (some ⟨C, 0, none⟩) := hV 13 (by decide)
                    have q14 := hV 14 (by decide)
                    have e15 : vals 15 = .string ⟨X.toArray⟩ := hV 15 (by decide)
                    have e16 : vals 16 = .slice pa na ca := hV 16 (by decide)
                    have e17 : vals 17 = .string ⟨a.toArray⟩ := hV 17 (by decide)
                    have e18 : vals 18 = .slice pb nb cb := hV 18 (by decide)
                    have e19 : vals 19 = .string ⟨b.toArray⟩ := hV 19 (by decide)
                    have e20 : vals 20 = .string ⟨X.toArray⟩ := hV 20 (by decide)
                    have e21 : vals 21 = .bool true := hV 21 (by decide)
                    have e22 : vals 22 = .bool true := hV 22 (by decide)
                    have e23 : vals 23 = .bool true := hV 23 (by decide)
                    simp only [putsL, Act.put, List.setIfInBounds_toArray, List.set_cons_zero, List.set_cons_succ, e0, e1, e2, e3, e4, e5, e7, e8, e9, e10, e11, e12, e13, e15, e16, e17, e18, e19, e20, e21, e22, e23]
                    clear e0 e1 e2 e3 e4 e5 e7 e8 e9 e10 e11 e12 e13 e15 e16 e17 e18 e19 e20 e21 e22 e23
                    have HBe := Lib.hid (HB12.out.trans (hJ.mono HB12.out.size))
                    clear hJ hV
                    generalize vals 6 = v6' at *
                    generalize vals 14 = v14' at *
                    go_wp2_with fail
                    go_ret
                    exact ⟨rfl, HBe.out⟩
end Go.Proofs.Ytbolmfpcddgpgaa
