/-
  scalar's generic loops at bytes that become runes: count, fill, turn.
-/
import Derived.Test.YtjamkefndniljaaDoorSdFirst
namespace Go.Proofs.YtjamkefndniljaaDoor.Sc
open Go.RowKit Go.Gz

def CntRel (W : World) (rs : List Int) (v m : Value) (wr : World) : Prop := ∃ (k : Nat) (q : Option Addr) (d : Nat), k ≤ rs.length ∧ v = .slice q (encAll (rs.drop k)).length d ∧ (encAll (rs.drop k)).length ≤ d ∧
  Row W .u8 q (nums (encAll (rs.drop k))) ∧ m = .int .i64 k ∧ Below W.heap.size W wr ∧ Buf wr W.heap.size .i32 4 []

theorem row_skip {W : World} {k : IntKind} {b o d u : Nat} {xs ys : List Int} (h : Row W k (some ⟨b, o, none⟩) (xs ++ ys)) (hu : xs.length = u) (hd : u + ys.length ≤ d) :
    Row W k (if d = u then some ⟨b, o, none⟩ else some ⟨b, o + u, none⟩) ys := by
  by_cases e : d = u
  · exact Or.inl (List.eq_nil_of_length_eq_zero (by omega))
  · rw [if_neg e]
    rcases h with h | ⟨b', o', hp, hlt, hc⟩
    · exact Or.inl (List.append_eq_nil_iff.1 h).2
    · cases hp
      refine Or.inr ⟨b, o + u, rfl, hlt, fun j hj => ?_⟩
      rw [Nat.add_assoc, hc (u + j) (by simp; omega), ← hu]
      simp [List.getD, List.getElem?_append_right]
theorem row_at {W : World} {k : IntKind} {p : Option Addr} {xs : List Int} (h : Row W k p xs) (hx : xs ≠ []) : ∃ b o, p = some ⟨b, o, none⟩ ∧ b < W.heap.size := by
  rcases h with h | ⟨b, o, hp, hlt, _⟩
  · exact absurd h hx
  · exact ⟨b, o, hp, hlt⟩
theorem nums_append (a b : List UInt8) : nums (a ++ b) = nums a ++ nums b := by simp [nums]
theorem rs_le : ∀ rs : List Int, rs.length ≤ (encAll rs).length
  | [] => Nat.le_refl _
  | r :: rs => by
    have := rs_le rs
    have := (enc_length r).1
    simp; omega

theorem drop_cons {rs : List Int} {k : Nat} (h : k < rs.length) : ∃ r, rs.drop k = r :: rs.drop (k + 1) ∧ r ∈ rs :=
  ⟨rs[k], List.drop_eq_getElem_cons h, List.getElem_mem h⟩

theorem buf_array4 (W : World) (k : IntKind) (t : TypeId) : Buf (W.alloc (.cells #[.int k 0, .int k 0, .int k 0, .int k 0] t)) W.heap.size k 4 [] := by
  refine ⟨by simp, by simp, fun j hj => ?_, fun j hj => by simp at hj⟩
  match j, hj with
  | 0, _ => simp
  | 1, _ => simp
  | 2, _ => simp
  | 3, _ => simp

theorem count_ok (rs : List Int) (hv : ∀ r ∈ rs, V r) (p : Option Addr) (c : Nat) (W : World) (hT : Lib.Utf8Tabs 1 2 W) (hp : Row W .u8 p (nums (encAll rs))) (hl : (encAll rs).length ≤ 1000000) (hc : (encAll rs).length ≤ c) :
    Calls Tryd.prog 45 #[.slice p (encAll rs).length c, .func (.func 28) #[] #[]] W fun e w' => e = .returned (.tuple #[.int .i64 rs.length, .bool true]) ∧ Below W.heap.size W w' := by
  have hrs := rs_le rs
  have HP := Lib.hid hp; clear hp
  have HT := Lib.hid hT; clear hT
  have HV := Lib.hid hv; clear hv
  go_enter Tryd.func45, Tryd.ntmps45
  go_wp2_with fail
  go_loopw [0, 7] (fun v m wr => CntRel W rs v m wr) (fun _ m _ => rs.length - (intOf m).toNat)
  case atStart => exact ⟨0, p, c, Nat.zero_le _, rfl, hc, HP.out, rfl, (Below.refl _ _).alloc (Nat.le_refl _) _, buf_array4 W .i32 115⟩
  case round =>
    obtain ⟨k, q, d, hk, rfl, hd, hq, rfl, hb, hbuf⟩ := hrel
    by_cases hlt : k < rs.length
    · obtain ⟨r, hdr, hmem⟩ := drop_cons hlt
      have hvr : V r := HV.out r hmem
      rw [hdr, encAll_cons] at hq hd ⊢
      generalize hy : encAll (rs.drop (k + 1)) = y at hq hd ⊢
      have hy' := Lib.hid hy; clear hy
      have hdr' := Lib.hid hdr; clear hdr
      have he := enc_length r
      have hne : enc r ++ y ≠ [] := by have := enc_ne r; simp [this]
      have cF := readFirst_ok (enc r ++ y) hne (ok_enc hvr y) q d W wr HT.out hq hb W.heap.size 4 [] (Nat.le_refl _) hbuf (by simp) (by omega)
      rw [step_enc hvr] at cF
      simp only [List.length_nil, Nat.zero_add, List.nil_append] at cF
      have hn : (enc r ++ y).length = (enc r).length + y.length := by simp
      rw [hn] at cF hd ⊢
      generalize hu : (enc r).length = u at cF hd he hn ⊢
      have CF := Lib.hid cF; clear cF hn hne
      have hu' := Lib.hid hu; clear hu
      have hq' := Lib.hid hq; clear hq
      clear hbuf
      have hlt' : (0 : Int) < (u : Int) + (y.length : Int) := by omega
      have hu0 : ((u : Int) == 0) = false := by simp; omega
      obtain ⟨bq, oq, rfl, hbq⟩ := row_at hq'.out (by have := enc_ne r; simp [nums, this])
      go_wp2_with fail
      refine CF.out.mono ?_
      rintro e w1 ⟨rfl, hb1, hbuf1⟩
      go_wp2
      go_roundw
      case rel =>
        refine ⟨k + 1, (if d = u then some ⟨bq, oq, none⟩ else some ⟨bq, oq + u, none⟩), d - u, by omega, by rw [hy'.out], by rw [hy'.out]; omega, ?_, by go_num, hb1, hbuf1.nil⟩
        rw [hy'.out]
        have := hq'.out
        rw [nums_append] at this
        exact row_skip this (by rw [nums_length]; exact hu'.out) (by rw [nums_length]; exact hd)
      case measure => simp [intOf]; omega
    · obtain rfl : k = rs.length := by omega
      rw [List.drop_length] at hq ⊢
      simp only [encAll_nil, List.length_nil]
      go_wp2
      go_ret2
      exact ⟨rfl, hb⟩
def lenOf : Value → Nat | .slice _ n _ => n | _ => 0
def BadRel (W : World) (L : Nat) (v m : Value) (wr : World) : Prop := ∃ (t : List UInt8) (j : Nat) (q : Option Addr) (d : Nat), ¬ Txt t ∧ j + t.length ≤ L ∧ v = .slice q t.length d ∧ t.length ≤ d ∧
  Row W .u8 q (nums t) ∧ m = .int .i64 j ∧ Below W.heap.size W wr ∧ Buf wr W.heap.size .i32 4 []

theorem txt_nil : Txt [] := ⟨[], fun r hr => by simp at hr, rfl⟩

theorem count_bad (l : List UInt8) (hbad : ¬ Txt l) (p : Option Addr) (c : Nat) (W : World) (hT : Lib.Utf8Tabs 1 2 W) (hp : Row W .u8 p (nums l)) (hl : l.length ≤ 1000000) (hc : l.length ≤ c) :
    Calls Tryd.prog 45 #[.slice p l.length c, .func (.func 28) #[] #[]] W fun e w' => e = .returned (.tuple #[.int .i64 0, .bool false]) ∧ Below W.heap.size W w' := by
  have HP := Lib.hid hp; clear hp
  have HT := Lib.hid hT; clear hT
  have HB := Lib.hid hbad; clear hbad
  go_enter Tryd.func45, Tryd.ntmps45
  go_wp2_with fail
  go_loopw [0, 7] (fun v m wr => BadRel W l.length v m wr) (fun v _ _ => lenOf v)
  case atStart => exact ⟨l, 0, p, c, HB.out, by omega, rfl, hc, HP.out, rfl, (Below.refl _ _).alloc (Nat.le_refl _) _, buf_array4 W .i32 115⟩
  case round =>
    obtain ⟨t, k, q, d, ht, hk, rfl, hd, hq, rfl, hb, hbuf⟩ := hrel
    have hne : t ≠ [] := fun h => ht (h ▸ txt_nil)
    by_cases ok : okS t
    · obtain ⟨r, hvr, hl', hs⟩ := step_ok t hne ok
      have hty : ¬ Txt (t.drop (enc r).length) := fun h => ht (txt_back hne ok (by rw [hs]; exact h))
      clear ht
      have he := enc_length r
      have cF := readFirst_ok t hne ok q d W wr HT.out hq hb W.heap.size 4 [] (Nat.le_refl _) hbuf (by simp) (by omega)
      rw [hs] at cF
      generalize t.drop (enc r).length = y at hl' hty
      subst hl'
      simp only [List.length_nil, Nat.zero_add, List.nil_append] at cF
      have hn : (enc r ++ y).length = (enc r).length + y.length := by simp
      rw [hn] at cF hd hk ⊢
      generalize hu : (enc r).length = u at cF hd hk he hn ⊢
      have CF := Lib.hid cF; clear cF hn hne hs ok
      have hu' := Lib.hid hu; clear hu
      have hq' := Lib.hid hq; clear hq
      have hty' := Lib.hid hty; clear hty
      clear hbuf
      have hlt' : (0 : Int) < (u : Int) + (y.length : Int) := by omega
      have hu0 : ((u : Int) == 0) = false := by simp; omega
      obtain ⟨bq, oq, rfl, hbq⟩ := row_at hq'.out (by have := enc_ne r; simp [nums, this])
      go_wp2_with fail
      refine CF.out.mono ?_
      rintro e w1 ⟨rfl, hb1, hbuf1⟩
      go_wp2
      go_roundw
      case rel =>
        refine ⟨y, k + 1, (if d = u then some ⟨bq, oq, none⟩ else some ⟨bq, oq + u, none⟩), d - u, hty'.out, by omega, rfl, by omega, ?_, by go_num, hb1, hbuf1.nil⟩
        have := hq'.out
        rw [nums_append] at this
        exact row_skip this (by rw [nums_length]; exact hu'.out) (by rw [nums_length]; exact hd)
      case measure => simp [lenOf]; omega
    · have cF := readFirst_bad t hne ok q d (.slice (some ⟨W.heap.size, 0, none⟩) 0 4) wr (tabs_below HT.out hb) (hq.below hb)
      have CF := Lib.hid cF; clear cF
      have hpos : 0 < t.length := List.length_pos_iff.2 hne
      have hlt' : (0 : Int) < (t.length : Int) := by omega
      have hsz := hb.size
      clear hq hne ok ht hbuf
      go_wp2_with fail
      refine CF.out.mono ?_
      rintro e w1 ⟨rfl, hb1⟩
      go_wp2
      go_ret2
      exact ⟨rfl, hb.trans (hb1.mono hsz)⟩

/-- a slice that a call returned. -/
def RetRow (W : World) (k : IntKind) (xs : List Int) (e : Ending) (w' : World) : Prop :=
  ∃ p c, e = .returned (.slice p xs.length c) ∧ xs.length ≤ c ∧ Below W.heap.size W w' ∧ Row w' k p xs

theorem buf_of_owns {w : World} {base : Nat} {e : TypeId} {g cap : Nat} {k : IntKind} (h : w.ownsRow base e 1 (.slice (some ⟨g, 0, none⟩) 0 cap) 0 []) : Buf w g k cap [] := by
  obtain ⟨_, h | ⟨g', cap', cur, hv, _, hg, _, _, hs, _⟩⟩ := h
  · simp at h
  · simp only [Value.slice.injEq, Option.some.injEq, Addr.mk.injEq] at hv
    obtain ⟨⟨rfl, _, _⟩, _, rfl⟩ := hv
    refine ⟨(Array.getElem?_eq_some_iff.1 hg).1, by simp, fun j hj => ?_, fun j hj => by simp at hj⟩
    have hj' : j < cur.size := by omega
    simp [World.cell?, World.frozen?, hg, hj']

def FillRel (W : World) (rs : List Int) (v o : Value) (wr : World) : Prop := ∃ (k : Nat) (q : Option Addr) (d : Nat), k ≤ rs.length ∧ v = .slice q (encAll (rs.drop k)).length d ∧ (encAll (rs.drop k)).length ≤ d ∧
  Row W .u8 q (nums (encAll (rs.drop k))) ∧ o = .slice (some ⟨W.heap.size, 0, none⟩) k rs.length ∧ Below W.heap.size W wr ∧ Buf wr W.heap.size .i32 rs.length (rs.take k)

theorem fill_ok (rs : List Int) (hv : ∀ r ∈ rs, V r) (p : Option Addr) (c : Nat) (W : World) (hT : Lib.Utf8Tabs 1 2 W) (hp : Row W .u8 p (nums (encAll rs))) (hl : (encAll rs).length ≤ 1000000) (hc : (encAll rs).length ≤ c) :
    Calls Tryd.prog 46 #[.int .i64 rs.length, .slice p (encAll rs).length c, .func (.func 28) #[] #[]] W (RetRow W .i32 rs) := by
  have hrs := rs_le rs
  have HP := Lib.hid hp; clear hp
  have HT := Lib.hid hT; clear hT
  have HV := Lib.hid hv; clear hv
  obtain ⟨i0, hi, hz0, hz1, hz2⟩ := info_parts info_rune
  go_enter Tryd.func46, Tryd.ntmps46
  go_wp2_with (at_make; refine wpList_make_own _ rfl _ _ 24 rfl W.heap.size 21 i0 (.int .i32 0) 1 Tryd.underlying24 hi hz0 hz1 _ _ _ rs.length rfl rfl rfl ?by1 ?by2 (Nat.le_refl _) ?_)
  case by1 => rw [hz2]; omega
  case by2 => unfold maxLen; omega
  intro w1 hown hgrow
  have hb1 : Below W.heap.size W w1 := (Below.refl _ _).grown hgrow (Nat.le_refl _) (fun k hk => by cases hk)
  have hbuf1 := Lib.hid (buf_of_owns (k := .i32) hown)
  clear hown hgrow hi hz0 hz1 hz2
  go_wp2_with fail
  go_loopw [1, 7] (fun v m wr => FillRel W rs v m wr) (fun v _ _ => lenOf v)
  case atStart => exact ⟨0, p, c, Nat.zero_le _, rfl, hc, HP.out, rfl, hb1, hbuf1.out⟩
  case round =>
    clear hb1 hbuf1
    obtain ⟨k, q, d, hk, rfl, hd, hq, rfl, hb, hbuf⟩ := hrel
    by_cases hlt : k < rs.length
    · obtain ⟨r, hdr, hmem⟩ := drop_cons hlt
      have hvr : V r := HV.out r hmem
      have htk : (rs.take k).length = k := by simp; omega
      have hty : rs.take k ++ [(r.toNat : Int)] = rs.take (k + 1) := by
        rw [enc_toNat hvr]
        have : rs[k]? = some r := by
          have := congrArg (·[0]?) hdr
          simpa using this
        rw [List.take_add_one, this]; rfl
      rw [hdr, encAll_cons] at hq hd ⊢
      generalize hy : encAll (rs.drop (k + 1)) = y at hq hd ⊢
      have hy' := Lib.hid hy; clear hy
      have hdr' := Lib.hid hdr; clear hdr
      have he := enc_length r
      have hne : enc r ++ y ≠ [] := by have := enc_ne r; simp [this]
      have cF := readFirst_ok (enc r ++ y) hne (ok_enc hvr y) q d W wr HT.out hq hb W.heap.size rs.length (rs.take k) (Nat.le_refl _) hbuf (by omega) (by omega)
      rw [step_enc hvr] at cF
      simp only [htk] at cF
      rw [hty] at cF
      have hn : (enc r ++ y).length = (enc r).length + y.length := by simp
      rw [hn] at cF hd ⊢
      generalize hu : (enc r).length = u at cF hd he hn ⊢
      have CF := Lib.hid cF; clear cF hn hne hty htk
      have hu' := Lib.hid hu; clear hu
      have hq' := Lib.hid hq; clear hq
      clear hbuf
      have hlt' : (0 : Int) < (u : Int) + (y.length : Int) := by omega
      obtain ⟨bq, oq, rfl, hbq⟩ := row_at hq'.out (by have := enc_ne r; simp [nums, this])
      go_wp2_with fail
      refine CF.out.mono ?_
      rintro e w2 ⟨rfl, hb2, hbuf2⟩
      have HB2 := Lib.hid hbuf2; clear hbuf2
      go_wp2
      go_roundw
      case rel =>
        refine ⟨k + 1, (if d = u then some ⟨bq, oq, none⟩ else some ⟨bq, oq + u, none⟩), d - u, by omega, by rw [hy'.out], by rw [hy'.out]; omega, ?_, rfl, hb2, HB2.out⟩
        rw [hy'.out]
        have := hq'.out
        rw [nums_append] at this
        exact row_skip this (by rw [nums_length]; exact hu'.out) (by rw [nums_length]; exact hd)
      case measure => simp [lenOf]; omega
    · obtain rfl : k = rs.length := by omega
      rw [List.drop_length] at hq ⊢
      rw [List.take_length] at hbuf
      simp only [encAll_nil, List.length_nil]
      have HB2 := Lib.hid hbuf; clear hbuf
      go_wp2
      go_ret
      exact ⟨_, _, rfl, Nat.le_refl _, hb, HB2.out.row⟩
end Go.Proofs.YtjamkefndniljaaDoor.Sc
