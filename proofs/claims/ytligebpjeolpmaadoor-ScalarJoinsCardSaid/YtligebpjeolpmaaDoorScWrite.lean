/-
  scalar's generic loops at runes that become bytes: count, fill, turn; Write.
-/
import Derived.Test.YtligebpjeolpmaaDoorScRead
import Derived.Laws.BytesArg
namespace Go.Proofs.YtligebpjeolpmaaDoor
open Go.RowKit Go.Gz

theorem enc_le4 : ∀ rs : List Int, (encAll rs).length ≤ 4 * rs.length
  | [] => Nat.le_refl _
  | r :: rs => by
    have := enc_le4 rs
    have := (enc_length r).2
    simp; omega

def WCntRel (W : World) (rs : List Int) (v m : Value) (wr : World) : Prop := ∃ (k : Nat) (q : Option Addr) (d : Nat), k ≤ rs.length ∧ v = .slice q (rs.drop k).length d ∧ (rs.drop k).length ≤ d ∧
  Row W .i32 q (rs.drop k) ∧ m = .int .i64 ((encAll (rs.take k)).length : Nat) ∧ Below W.heap.size W wr ∧ Buf wr W.heap.size .u8 4 []

theorem take_more {rs : List Int} {k : Nat} {r : Int} (h : rs.drop k = r :: rs.drop (k + 1)) : rs.take (k + 1) = rs.take k ++ [r] := by
  have : rs[k]? = some r := by
    have := congrArg (·[0]?) h
    simpa using this
  rw [List.take_add_one, this]; rfl

theorem wcount_ok (rs : List Int) (hv : ∀ r ∈ rs, V r) (p : Option Addr) (c : Nat) (W : World) (hp : Row W .i32 p rs) (hl : rs.length ≤ 100000) (hc : rs.length ≤ c) :
    Calls Tryd.prog 27 #[.slice p rs.length c, .func (.func 21) #[] #[]] W fun e w' => e = .returned (.tuple #[.int .i64 ((encAll rs).length : Nat), .bool true]) ∧ Below W.heap.size W w' := by
  have HP := Lib.hid hp; clear hp
  have HV := Lib.hid hv; clear hv
  go_enter Tryd.func27, Tryd.ntmps27
  go_wp2_with fail
  go_loopw [0, 7] (fun v m wr => WCntRel W rs v m wr) (fun v _ _ => lenOf v)
  case atStart => exact ⟨0, p, c, Nat.zero_le _, rfl, hc, HP.out, rfl, (Below.refl _ _).alloc (Nat.le_refl _) _, buf_array4 W .u8 57⟩
  case round =>
    obtain ⟨k, q, d, hk, rfl, hd, hq, rfl, hb, hbuf⟩ := hrel
    by_cases hlt : k < rs.length
    · obtain ⟨r, hdr, hmem⟩ := drop_cons hlt
      have hvr : V r := HV.out r hmem
      have he := enc_length r
      have hmany : (encAll (rs.take (k + 1))).length = (encAll (rs.take k)).length + (enc r).length := by rw [take_more hdr, encAll_append]; simp
      have hmb : (encAll (rs.take k)).length ≤ 4 * k := by have := enc_le4 (rs.take k); rw [List.length_take] at this; omega
      have hlen : (rs.drop k).length = (rs.drop (k + 1)).length + 1 := by rw [hdr]; rfl
      rw [hlen] at hd ⊢
      rw [hdr] at hq
      have hdr' := Lib.hid hdr; clear hdr
      generalize hy : rs.drop (k + 1) = y at hq hd hlen ⊢
      have hy' := Lib.hid hy; clear hy
      have cF := writeFirst_ok r y hvr (y.length + 1) (by omega) q d wr (hq.below hb) W.heap.size W.heap.size 4 [] (Nat.le_refl _) hbuf (by simp; omega) (by omega)
      simp only [List.length_nil, Nat.zero_add, List.nil_append] at cF
      generalize hu : (enc r).length = u at cF he hmany
      generalize hj : (encAll (rs.take k)).length = j at hmany hmb ⊢
      have CF := Lib.hid cF; clear cF
      have hu' := Lib.hid hu; clear hu
      have hj' := Lib.hid hj; clear hj
      have hq' := Lib.hid hq; clear hq
      have hmany' := Lib.hid hmany; clear hmany
      clear hbuf hlen
      have hlt' : (0 : Int) < (y.length : Int) + 1 := by omega
      obtain ⟨bq, oq, rfl, hbq⟩ := row_at hq'.out (by simp)
      go_wp2_with fail
      refine CF.out.mono ?_
      rintro e w1 ⟨rfl, hb1, hbuf1⟩
      have hb1' := hb.trans hb1
      have HB1 := Lib.hid hbuf1; clear hbuf1
      go_wp2
      go_roundw
      case rel =>
        refine ⟨k + 1, (if d = 1 then some ⟨bq, oq, none⟩ else some ⟨bq, oq + 1, none⟩), d - 1, by omega, by rw [hy'.out], by rw [hy'.out]; omega, ?_, by rw [hmany'.out]; go_num, hb1', HB1.out.nil⟩
        rw [hy'.out]
        exact row_skip (xs := [r]) hq'.out rfl (by omega)
      case measure => simp [lenOf]
    · obtain rfl : k = rs.length := by omega
      rw [List.drop_length] at hq ⊢
      rw [List.take_length]
      simp only [List.length_nil]
      go_wp2
      go_ret2
      exact ⟨rfl, hb⟩

def WBadRel (W : World) (L : Nat) (v m : Value) (wr : World) : Prop := ∃ (t : List Int) (j : Nat) (q : Option Addr) (d : Nat), (¬ ∀ r ∈ t, V r) ∧ j + 4 * t.length ≤ L ∧ v = .slice q t.length d ∧ t.length ≤ d ∧
  Row W .i32 q t ∧ m = .int .i64 j ∧ Below W.heap.size W wr ∧ Buf wr W.heap.size .u8 4 []

theorem wcount_bad (l : List Int) (hbad : ¬ ∀ r ∈ l, V r) (p : Option Addr) (c : Nat) (W : World) (hp : Row W .i32 p l) (hl : l.length ≤ 100000) (hc : l.length ≤ c) :
    Calls Tryd.prog 27 #[.slice p l.length c, .func (.func 21) #[] #[]] W fun e w' => e = .returned (.tuple #[.int .i64 0, .bool false]) ∧ Below W.heap.size W w' := by
  have HP := Lib.hid hp; clear hp
  have HB := Lib.hid hbad; clear hbad
  go_enter Tryd.func27, Tryd.ntmps27
  go_wp2_with fail
  go_loopw [0, 7] (fun v m wr => WBadRel W (4 * l.length) v m wr) (fun v _ _ => lenOf v)
  case atStart => exact ⟨l, 0, p, c, HB.out, by omega, rfl, hc, HP.out, rfl, (Below.refl _ _).alloc (Nat.le_refl _) _, buf_array4 W .u8 57⟩
  case round =>
    obtain ⟨t, k, q, d, ht, hk, rfl, hd, hq, rfl, hb, hbuf⟩ := hrel
    match t, ht, hk, hd, hq with
    | [], ht, _, _, _ => exact absurd (fun r hr => by simp at hr) ht
    | r :: y, ht, hk, hd, hq =>
      simp only [List.length_cons] at hk hd ⊢
      have hlt' : (0 : Int) < (y.length : Int) + 1 := by omega
      obtain ⟨bq, oq, rfl, hbq⟩ := row_at hq (by simp)
      by_cases hvr : V r
      · have hty : ¬ ∀ r ∈ y, V r := fun h => ht (fun x hx => (List.mem_cons.1 hx).elim (fun e => e ▸ hvr) (h x))
        clear ht
        have he := enc_length r
        have cF := writeFirst_ok r y hvr (y.length + 1) (by omega) (some ⟨bq, oq, none⟩) d wr (hq.below hb) W.heap.size W.heap.size 4 [] (Nat.le_refl _) hbuf (by simp; omega) (by omega)
        simp only [List.length_nil, Nat.zero_add, List.nil_append] at cF
        generalize hu : (enc r).length = u at cF he
        have CF := Lib.hid cF; clear cF hu
        have hq' := Lib.hid hq; clear hq
        have hty' := Lib.hid hty; clear hty
        clear hbuf
        go_wp2_with fail
        refine CF.out.mono ?_
        rintro e w1 ⟨rfl, hb1, hbuf1⟩
        have hb1' := hb.trans hb1
        have HB1 := Lib.hid hbuf1; clear hbuf1
        go_wp2
        go_roundw
        case rel =>
          exact ⟨y, k + u, (if d = 1 then some ⟨bq, oq, none⟩ else some ⟨bq, oq + 1, none⟩), d - 1, hty'.out, by omega, rfl, by omega, row_skip (xs := [r]) hq'.out rfl (by omega), by go_num, hb1', HB1.out.nil⟩
        case measure => simp [lenOf]
      · have cF := writeFirst_bad r y hvr (y.length + 1) (by omega) (some ⟨bq, oq, none⟩) d (.slice (some ⟨W.heap.size, 0, none⟩) 0 4) wr (hq.below hb)
        have CF := Lib.hid cF; clear cF
        clear hq ht hbuf
        go_wp2_with fail
        refine CF.out.mono ?_
        rintro e w1 ⟨rfl, rfl⟩
        go_wp2
        go_ret2
        exact ⟨rfl, hb⟩

def WFillRel (W : World) (rs : List Int) (v o : Value) (wr : World) : Prop := ∃ (k : Nat) (q : Option Addr) (d : Nat), k ≤ rs.length ∧ v = .slice q (rs.drop k).length d ∧ (rs.drop k).length ≤ d ∧
  Row W .i32 q (rs.drop k) ∧ o = .slice (some ⟨W.heap.size, 0, none⟩) (encAll (rs.take k)).length (encAll rs).length ∧ Below W.heap.size W wr ∧ Buf wr W.heap.size .u8 (encAll rs).length (nums (encAll (rs.take k)))

theorem wfill_ok (rs : List Int) (hv : ∀ r ∈ rs, V r) (p : Option Addr) (c : Nat) (W : World) (hp : Row W .i32 p rs) (hl : rs.length ≤ 100000) (hc : rs.length ≤ c) :
    Calls Tryd.prog 28 #[.int .i64 ((encAll rs).length : Nat), .slice p rs.length c, .func (.func 21) #[] #[]] W (RetRow W .u8 (nums (encAll rs))) := by
  have hrs := enc_le4 rs
  have HP := Lib.hid hp; clear hp
  have HV := Lib.hid hv; clear hv
  obtain ⟨i0, hi, hz0, hz1, hz2⟩ := info_parts info_byte
  go_enter Tryd.func28, Tryd.ntmps28
  go_wp2_with (at_make; refine wpList_make_own _ rfl _ _ 42 rfl W.heap.size 5 i0 (.int .u8 0) 1 Tryd.underlying42 hi hz0 hz1 _ _ _ (encAll rs).length rfl rfl rfl ?by1 ?by2 (Nat.le_refl _) ?_)
  case by1 => rw [hz2]; omega
  case by2 => unfold maxLen; omega
  intro w1 hown hgrow
  have hb1 : Below W.heap.size W w1 := (Below.refl _ _).grown hgrow (Nat.le_refl _) (fun k hk => by cases hk)
  have hbuf1 := Lib.hid (buf_of_owns (k := .u8) hown)
  clear hown hgrow hi hz0 hz1 hz2
  go_wp2_with fail
  go_loopw [1, 7] (fun v m wr => WFillRel W rs v m wr) (fun v _ _ => lenOf v)
  case atStart => exact ⟨0, p, c, Nat.zero_le _, rfl, hc, HP.out, rfl, hb1, hbuf1.out⟩
  case round =>
    clear hb1 hbuf1
    obtain ⟨k, q, d, hk, rfl, hd, hq, rfl, hb, hbuf⟩ := hrel
    by_cases hlt : k < rs.length
    · obtain ⟨r, hdr, hmem⟩ := drop_cons hlt
      have hvr : V r := HV.out r hmem
      have he := enc_length r
      have hall : encAll rs = encAll (rs.take k) ++ encAll (rs.drop k) := by rw [← encAll_append, List.take_append_drop]
      have hmany : encAll (rs.take (k + 1)) = encAll (rs.take k) ++ enc r := by rw [take_more hdr, encAll_append]; simp
      have hroom : (encAll (rs.take k)).length + (enc r).length ≤ (encAll rs).length := by rw [hall, hdr]; simp
      have hlen : (rs.drop k).length = (rs.drop (k + 1)).length + 1 := by rw [hdr]; rfl
      rw [hlen] at hd ⊢
      rw [hdr] at hq
      have hdr' := Lib.hid hdr; clear hdr
      clear hall
      generalize hy : rs.drop (k + 1) = y at hq hd hlen ⊢
      have hy' := Lib.hid hy; clear hy
      have cF := writeFirst_ok r y hvr (y.length + 1) (by omega) q d wr (hq.below hb) W.heap.size W.heap.size (encAll rs).length _ (Nat.le_refl _) hbuf (by simpa using hroom) (by omega)
      rw [← nums_append, ← hmany] at cF
      simp only [nums_length] at cF
      have hmany2 : (encAll (rs.take (k + 1))).length = (encAll (rs.take k)).length + (enc r).length := by rw [hmany]; simp
      clear hmany
      generalize hu : (enc r).length = u at cF he hmany2 hroom
      generalize hj : (encAll (rs.take k)).length = j at cF hmany2 hroom ⊢
      generalize hN : (encAll rs).length = N at cF hroom hrs ⊢
      have CF := Lib.hid cF; clear cF
      have hN' := Lib.hid hN; clear hN
      have hu' := Lib.hid hu; clear hu
      have hj' := Lib.hid hj; clear hj
      have hq' := Lib.hid hq; clear hq
      have hmany' := Lib.hid hmany2; clear hmany2
      clear hbuf hlen
      have hlt' : (0 : Int) < (y.length : Int) + 1 := by omega
      obtain ⟨bq, oq, rfl, hbq⟩ := row_at hq'.out (by simp)
      go_wp2_with fail
      refine CF.out.mono ?_
      rintro e w1 ⟨rfl, hb1, hbuf1⟩
      have hb1' := hb.trans hb1
      have HB1 := Lib.hid hbuf1; clear hbuf1
      go_wp2
      go_roundw
      case rel =>
        refine ⟨k + 1, (if d = 1 then some ⟨bq, oq, none⟩ else some ⟨bq, oq + 1, none⟩), d - 1, by omega, by rw [hy'.out], by rw [hy'.out]; omega, ?_, by rw [hmany'.out, hN'.out], hb1', by rw [hN'.out]; exact HB1.out⟩
        rw [hy'.out]
        exact row_skip (xs := [r]) hq'.out rfl (by omega)
      case measure => simp [lenOf]
    · obtain rfl : k = rs.length := by omega
      rw [List.drop_length] at hq ⊢
      rw [List.take_length] at hbuf ⊢
      simp only [List.length_nil]
      have HB2 := Lib.hid hbuf; clear hbuf
      go_wp2
      go_ret
      exact ⟨some ⟨W.heap.size, 0, none⟩, (encAll rs).length, by rw [nums_length]; rfl, by simp, hb, HB2.out.row⟩
end Go.Proofs.YtligebpjeolpmaaDoor
