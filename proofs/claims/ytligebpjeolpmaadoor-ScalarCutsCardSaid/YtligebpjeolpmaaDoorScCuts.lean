/-
  ScalarCuts: the walk: a text cut between runes is a text; cut within one it is none.
-/
import Derived.Test.YtligebpjeolpmaaDoorScAwake
import Derived.Test.YtligebpjeolpmaaDoorScRefMay
namespace Go.Proofs.YtligebpjeolpmaaDoor
open Go.RowKit Go.Gz

/-- runes whose bytes begin a text's are the text's own first runes. -/
theorem enc_prefix : ∀ (xs rs : List Int) (d : List UInt8), (∀ r ∈ xs, V r) → (∀ r ∈ rs, V r) → encAll xs ++ d = encAll rs → xs = rs.take xs.length
  | [], _, _, _, _, _ => rfl
  | x :: xs, [], d, _, _, h => by have := enc_ne x; simp at h; exact absurd h.1 this
  | x :: xs, r :: rs, d, hx, hr, h => by
    rw [encAll_cons, encAll_cons, List.append_assoc] at h
    have vx : V x := hx x (by simp)
    have vr : V r := hr r (by simp)
    have e := step_enc vx (encAll xs ++ d)
    rw [h, step_enc vr] at e
    simp only [Prod.mk.injEq] at e
    have : r = x := by rw [← enc_toNat vx, ← enc_toNat vr, e.1]
    subst this
    have h2 := List.append_cancel_left h
    rw [List.length_cons, List.take_succ_cons, ← enc_prefix xs rs d (fun y hy => hx y (by simp [hy])) (fun y hy => hr y (by simp [hy])) h2]

/-- how many bytes the first n runes have. -/
def upTo (rs : List Int) (n : Nat) : Nat := (encAll (rs.take n)).length
theorem upTo_succ {rs : List Int} {n : Nat} {r : Int} (h : rs.drop n = r :: rs.drop (n + 1)) : upTo rs (n + 1) = upTo rs n + (enc r).length := by
  unfold upTo; rw [take_more h, encAll_append]; simp
theorem upTo_all (rs : List Int) : upTo rs rs.length = (encAll rs).length := by unfold upTo; rw [List.take_length]
theorem upTo_lt {rs : List Int} : ∀ {m n : Nat}, n < m → m ≤ rs.length → upTo rs n < upTo rs m := by
  intro m
  induction m with
  | zero => intro n h; omega
  | succ m ih =>
    intro n h hm
    obtain ⟨r, hd, _⟩ := drop_cons (show m < rs.length by omega)
    have := (enc_length r).1
    rw [upTo_succ hd]
    by_cases e : n = m
    · subst e; omega
    · have := ih (show n < m by omega) (by omega); omega
theorem take_upTo (rs : List Int) (n : Nat) : (encAll rs).take (upTo rs n) = encAll (rs.take n) := by
  have : encAll rs = encAll (rs.take n) ++ encAll (rs.drop n) := by rw [← encAll_append, List.take_append_drop]
  rw [this]
  exact List.take_left

/-- a text's first k bytes are a text just if k is a border between runes. -/
theorem txt_take {rs : List Int} (hv : ∀ r ∈ rs, V r) {k : Nat} (hk : k ≤ (encAll rs).length) (h : Txt ((encAll rs).take k)) : ∃ n, n ≤ rs.length ∧ upTo rs n = k := by
  obtain ⟨xs, hx, he⟩ := h
  have h1 : encAll xs ++ (encAll rs).drop k = encAll rs := by rw [← he, List.take_append_drop]
  have h2 := enc_prefix xs rs _ hx hv h1
  refine ⟨xs.length, ?_, ?_⟩
  · have := congrArg List.length h2
    rw [List.length_take] at this
    omega
  · unfold upTo
    rw [← h2, ← he, List.length_take]
    omega

theorem extract_take (s : ByteArray) (k : Nat) : (s.extract 0 k).data.toList = s.data.toList.take k := by simp

theorem row_take {W : World} {k : IntKind} {p : Option Addr} {xs : List Int} (h : Row W k p xs) (n : Nat) : Row W k p (xs.take n) := by
  rcases h with h | ⟨b, o, hp, hlt, hc⟩
  · exact Or.inl (by rw [h]; simp)
  · refine Or.inr ⟨b, o, hp, hlt, fun j hj => ?_⟩
    simp only [List.length_take] at hj
    rw [hc j (by omega)]
    simp [List.getD, show j < n by omega]

def CutRel (W : World) (rs : List Int) (lim : Nat) (n a : Value) (wr : World) : Prop := ∃ i : Nat, i ≤ lim ∧ n = .int .i64 i ∧ a = .int .i64 (upTo rs i : Nat) ∧ Below W.heap.size W wr

set_option maxHeartbeats 2000000 in
theorem cuts_walk (rs : List Int) (p : Option Addr) (c : Nat) (cut : Int) (W : World) (hT : Lib.Utf8Tabs 1 2 W) (hp : Row W .i32 p rs) (hc : rs.length ≤ c) (h0 : 0 ≤ cut) (h1 : cut ≤ 65535) :
    Calls Tryd.prog 7 #[.slice p rs.length c, .int .u16 cut] W fun e w' => e = .returned (.bool true) ∧ Below W.heap.size W w' := by
  have HT := Lib.hid hT
  have HP := Lib.hid hp
  have C0 := Lib.hid (awake_true W hT)
  clear hT hp
  by_cases hbig : 300 < rs.length
  · have hbig' : (300 : Int) < (rs.length : Int) := by omega
    go_enter Tryd.func7, Tryd.ntmps7
    go_wp2_with fail
    refine C0.out.mono ?_
    rintro e w1 ⟨rfl, hb1⟩
    go_wp2
    go_ret
    exact ⟨rfl, hb1⟩
  · have hsm : (rs.length : Int) ≤ 300 := by omega
    have hsm' : rs.length ≤ 300 := by omega
    clear hbig
    by_cases hv : ∀ r ∈ rs, V r
    · have C1 := Lib.hid fun w1 (hb : Below W.heap.size W w1) => write_ok rs hv p c w1 (HP.out.below hb) (by omega) hc
      have HV := Lib.hid hv; clear hv
      have hlen := enc_le4 rs
      obtain ⟨k, hk⟩ : ∃ k : Nat, cut % (((encAll rs).length : Int) + 1) = k := ⟨(cut % (((encAll rs).length : Int) + 1)).toNat, by rw [Int.toNat_of_nonneg (Int.emod_nonneg _ (by omega))]⟩
      have hk2 : k ≤ (encAll rs).length := by have := Int.emod_lt_of_pos cut (show (0 : Int) < ((encAll rs).length : Int) + 1 by omega); omega
      by_cases hA : Txt ((encAll rs).take k)
      · obtain ⟨m, hm1, hm2⟩ := txt_take HV.out hk2 hA
        clear hA
        have CR := Lib.hid fun w1 hT1 => read_ok (rs.take m) (fun r hr => HV.out r (List.mem_of_mem_take hr)) ((⟨(encAll rs).toArray⟩ : ByteArray).extract 0 k) (by rw [extract_take, ← hm2]; exact take_upTo rs m) w1 hT1 (by simp; omega)
        have hm2' := Lib.hid hm2; clear hm2
        go_enter Tryd.func7, Tryd.ntmps7
        go_wp2_with fail
        refine C0.out.mono ?_
        rintro e w1 ⟨rfl, hb1⟩
        go_wp2_with fail
        refine (C1.out w1 hb1).mono ?_
        rintro e w2 ⟨rfl, hb2⟩
        have hb02 := hb1.trans (hb2.mono hb1.size)
        go_wp2_with fail
        refine (CR.out w2 (tabs_below HT.out hb02)).mono ?_
        rintro e w3 ⟨q, d, rfl, hd, hb3, hr⟩
        have HR := Lib.hid hr; clear hr
        have hb03 := hb02.trans (hb3.mono hb02.size)
        have hs3 := hb3.size
        clear hb1 hb2
        go_wp2_with fail
        go_loopw [10, 11] (fun n a wr => CutRel w3 rs m n a wr) (fun n _ _ => rs.length - (intOf n).toNat)
        case atStart => exact ⟨0, Nat.zero_le _, rfl, rfl, Below.refl _ _⟩
        case round =>
          obtain ⟨i, hi, rfl, rfl, hb⟩ := hrel
          have hsr := hb.size
          have hb0r := hb03.trans (hb.mono hb03.size)
          by_cases hlt : i < m
          · obtain ⟨r, hdr, hmem⟩ := drop_cons (show i < rs.length by omega)
            have hup := upTo_succ hdr
            have hup2 : upTo rs i < k := by rw [← hm2'.out]; exact upTo_lt hlt hm1
            have hup3 : upTo rs (i + 1) ≤ k := by
              rw [← hm2'.out]
              by_cases e : i + 1 = m
              · rw [e]; exact Nat.le_refl _
              · exact Nat.le_of_lt (upTo_lt (by omega) hm1)
            obtain ⟨bp, op, rfl, hbp, hcell⟩ := row_cell HP.out hb0r (show i < rs.length by omega)
            have hget : rs.getD i 0 = r := by
              have := congrArg (·[0]?) hdr
              simp only [List.getElem?_drop, Nat.add_zero, List.getElem?_cons_zero] at this
              simp [List.getD, this]
            rw [hget] at hcell
            have cW := (write_ok [r] (fun x hx => by rw [List.mem_singleton.1 hx]; exact HV.out r hmem) (some ⟨bp, op + i, none⟩) (c - i) wr (Or.inr ⟨bp, op + i, rfl, by have := hb0r.size; omega, fun j hj => by
              match j, hj with
              | 0, _ => exact hcell⟩) (by simp) (by simp; omega))
            rw [show encAll [r] = enc r by simp] at cW
            have he := enc_length r
            have hd' := Lib.hid hdr; clear hdr hget hcell
            rw [hup] at hup3
            have hsz : (ByteArray.mk (enc r).toArray).size = (enc r).length := by simp [ByteArray.size]
            generalize (⟨(enc r).toArray⟩ : ByteArray) = sx at cW hsz
            generalize (enc r).length = lx at hup hup3 he hsz
            subst hsz
            have CW := Lib.hid cW; clear cW
            generalize hu : upTo rs i = u at hup2 hup hup3 ⊢
            have hu' := Lib.hid hu; clear hu
            have hup' := Lib.hid hup; clear hup
            have hci : ¬ c = i := by omega
            have hlt' : (u : Int) < (k : Int) := by omega
            go_wp2_with fail
            refine CW.out.mono ?_
            rintro e w4 ⟨rfl, hb4⟩
            have hb34 := hb.trans (hb4.mono hsr)
            go_wp2
            go_roundw
            case rel => exact ⟨i + 1, by omega, by go_num, by rw [hup'.out]; go_num, hb34⟩
            case measure => simp [intOf]; omega
          · obtain rfl : i = m := by omega
            have CS := Lib.hid (same_yes (rs.take i) q p d c wr (by simp; omega) (HR.out.below hb) ((row_take (HP.out) i).below hb0r))
            have hlen2 : (rs.take i).length = i := by simp; omega
            rw [hlen2] at CS
            have hkk : (upTo rs i : Int) = (k : Int) := by rw [hm2'.out]
            rw [hkk]
            have hge : ¬ (k : Int) < (k : Int) := by omega
            clear hm2' hkk
            go_wp2_with fail
            refine CS.out.mono ?_
            rintro e w4 ⟨rfl, hb4⟩
            go_wp2
            go_ret
            exact ⟨rfl, hb0r.trans (hb4.mono hb0r.size)⟩
      · have CR := Lib.hid fun w1 hT1 => read_bad ((⟨(encAll rs).toArray⟩ : ByteArray).extract 0 k) (by rw [extract_take]; exact hA) w1 hT1 (by simp; omega)
        have hno : ∀ n, n ≤ rs.length → upTo rs n ≠ k := fun n hn h => hA ⟨rs.take n, fun r hr => HV.out r (List.mem_of_mem_take hr), by rw [← h]; exact take_upTo rs n⟩
        have HNo := Lib.hid hno; clear hno hA
        go_enter Tryd.func7, Tryd.ntmps7
        go_wp2_with fail
        refine C0.out.mono ?_
        rintro e w1 ⟨rfl, hb1⟩
        go_wp2_with fail
        refine (C1.out w1 hb1).mono ?_
        rintro e w2 ⟨rfl, hb2⟩
        have hb02 := hb1.trans (hb2.mono hb1.size)
        go_wp2_with fail
        refine (CR.out w2 (tabs_below HT.out hb02)).mono ?_
        rintro e w3 ⟨rfl, hb3⟩
        have hb03 := hb02.trans (hb3.mono hb02.size)
        clear hb1 hb2 hb3
        go_wp2_with fail
        go_loopw [10, 11] (fun n a wr => CutRel w3 rs rs.length n a wr) (fun n _ _ => rs.length - (intOf n).toNat)
        case atStart => exact ⟨0, Nat.zero_le _, rfl, rfl, Below.refl _ _⟩
        case round =>
          obtain ⟨i, hi, rfl, rfl, hb⟩ := hrel
          have hsr := hb.size
          have hb0r := hb03.trans (hb.mono hb03.size)
          have hne := HNo.out i hi
          by_cases hlt0 : upTo rs i < k
          · have hlt : i < rs.length := by
              by_cases e : i = rs.length
              · rw [e, upTo_all] at hlt0; omega
              · omega
            obtain ⟨r, hdr, hmem⟩ := drop_cons hlt
            have hup := upTo_succ hdr
            have hup3 : upTo rs (i + 1) ≤ (encAll rs).length := by
              rw [← upTo_all]
              by_cases e : i + 1 = rs.length
              · rw [e]; exact Nat.le_refl _
              · exact Nat.le_of_lt (upTo_lt (by omega) (Nat.le_refl _))
            obtain ⟨bp, op, rfl, hbp, hcell⟩ := row_cell HP.out hb0r hlt
            have hget : rs.getD i 0 = r := by
              have := congrArg (·[0]?) hdr
              simp only [List.getElem?_drop, Nat.add_zero, List.getElem?_cons_zero] at this
              simp [List.getD, this]
            rw [hget] at hcell
            have cW := (write_ok [r] (fun x hx => by rw [List.mem_singleton.1 hx]; exact HV.out r hmem) (some ⟨bp, op + i, none⟩) (c - i) wr (Or.inr ⟨bp, op + i, rfl, by have := hb0r.size; omega, fun j hj => by
              match j, hj with
              | 0, _ => exact hcell⟩) (by simp) (by simp; omega))
            rw [show encAll [r] = enc r by simp] at cW
            have he := enc_length r
            have hd' := Lib.hid hdr; clear hdr hget hcell
            rw [hup] at hup3
            have hsz : (ByteArray.mk (enc r).toArray).size = (enc r).length := by simp [ByteArray.size]
            generalize (⟨(enc r).toArray⟩ : ByteArray) = sx at cW hsz
            generalize (enc r).length = lx at hup hup3 he hsz
            subst hsz
            have CW := Lib.hid cW; clear cW
            generalize hu : upTo rs i = u at hup hup3 hlt0 hne ⊢
            have hu' := Lib.hid hu; clear hu
            have hup' := Lib.hid hup; clear hup
            have hci : ¬ c = i := by omega
            have hlt' : (u : Int) < (k : Int) := by omega
            clear hne
            go_wp2_with fail
            refine CW.out.mono ?_
            rintro e w4 ⟨rfl, hb4⟩
            have hb34 := hb.trans (hb4.mono hsr)
            go_wp2
            go_roundw
            case rel => exact ⟨i + 1, by omega, by go_num, by rw [hup'.out]; go_num, hb34⟩
            case measure => simp [intOf]; omega
          · generalize hu : upTo rs i = u at hlt0 hne ⊢
            have hu' := Lib.hid hu; clear hu
            have hge : ¬ (u : Int) < (k : Int) := by omega
            have hneq : ((u : Int) != (k : Int)) = true := by rw [bne_iff_ne]; omega
            clear hne
            go_wp2
            go_ret
            exact ⟨rfl, hb0r⟩
    · have C1 := Lib.hid fun w1 (hb : Below W.heap.size W w1) => write_bad rs hv p c w1 (HP.out.below hb) (by omega) hc
      clear hv
      go_enter Tryd.func7, Tryd.ntmps7
      go_wp2_with fail
      refine C0.out.mono ?_
      rintro e w1 ⟨rfl, hb1⟩
      go_wp2_with fail
      refine (C1.out w1 hb1).mono ?_
      rintro e w2 ⟨rfl, hb2⟩
      go_wp2
      go_ret
      exact ⟨rfl, hb1.trans (hb2.mono hb1.size)⟩
end Go.Proofs.YtligebpjeolpmaaDoor
