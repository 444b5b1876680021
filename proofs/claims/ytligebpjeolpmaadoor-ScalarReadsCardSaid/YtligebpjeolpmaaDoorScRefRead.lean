/-
  The reference's Read, at any bytes.
-/
import Derived.Test.YtligebpjeolpmaaDoorScRefMay
import Derived.Test.YtligebpjeolpmaaDoorScLeaf
import Derived.Lib.Bits
namespace Go.Proofs.YtligebpjeolpmaaDoor
open Go.RowKit Go.Gz

/-- what Read of any bytes answers: the runes, or that they are none. -/
def RRes (s : ByteArray) (W : World) (e : Ending) (w' : World) : Prop :=
  (∀ rs : List Int, (∀ r ∈ rs, V r) → s.data.toList = encAll rs → RetRow0 W .i32 rs e w') ∧ (¬ Txt s.data.toList → e = .returned (.tuple #[.slice none 0 0, .int .i64 2])) ∧ Below W.heap.size W w'

def RRRel (W : World) (s : ByteArray) (v i : Value) (wr : World) : Prop := ∃ (rs : List Int) (rest : List UInt8), (∀ r ∈ rs, V r) ∧ s.data.toList = encAll rs ++ rest ∧ i = .int .i64 ((encAll rs).length : Nat) ∧ Own wr W.heap.size 21 .i32 v rs ∧ Below W.heap.size W wr

theorem size_of {s : ByteArray} {l : List UInt8} (h : s.data.toList = l) : s.size = l.length := by rw [← h]; simp
theorem byte_of {s : ByteArray} {x : List UInt8} {b : UInt8} {t : List UInt8} (h : s.data.toList = x ++ b :: t) (hk : x.length < s.size) : s[x.length] = b := by
  have : s.data.toList[x.length]? = some b := by rw [h]; simp
  rw [Array.getElem?_toList] at this
  exact (Array.getElem?_eq_some_iff.1 this).2

theorem byte_k {s : ByteArray} {x rest : List UInt8} {j k : Nat} {b : UInt8} (h : s.data.toList = x ++ rest) (hx : x.length = j) (hk : rest[k]? = some b) : ∃ hlt : j + k < s.size, s[j + k] = b := by
  have : s.data.toList[j + k]? = some b := by
    rw [h, List.getElem?_append_right (by omega), ← hx, Nat.add_sub_cancel_left]
    exact hk
  rw [Array.getElem?_toList] at this
  exact Array.getElem?_eq_some_iff.1 this

theorem cont_yes (b : UInt8) (h : b.toNat / 64 = 2) : (bits BinOp.and IntKind.u8 (b.toNat : Int) 192 != 128) = false := by
  have l := b.toNat_lt
  rw [Lib.runeStart_of _ (by omega) (by omega)]
  unfold Lib.runeStart
  have : (b.toNat : Int) / 64 = 2 := by omega
  rw [this]; rfl
theorem cont_no (b : UInt8) (h : ¬ b.toNat / 64 = 2) : (bits BinOp.and IntKind.u8 (b.toNat : Int) 192 != 128) = true := by
  have l := b.toNat_lt
  rw [Lib.runeStart_of _ (by omega) (by omega)]
  unfold Lib.runeStart
  have : ¬ (b.toNat : Int) / 64 = 2 := by omega
  simpa using this
theorem refMay_yes (r : Int) (hv : V r) (w : World) : Calls Tryd.prog 17 #[.int .i32 r] w fun e w' => e = .returned (.bool true) ∧ w = w' := by
  have := refMay_any r w
  rwa [(validRune_iff r).2 hv] at this
theorem refMay_no (r : Int) (hv : ¬ V r) (w : World) : Calls Tryd.prog 17 #[.int .i32 r] w fun e w' => e = .returned (.bool false) ∧ w = w' := by
  have := refMay_any r w
  rwa [show Lib.validRune r = false by rw [← Bool.not_eq_true, validRune_iff]; exact hv] at this

/-- a round that goes on: the relation behind it. -/
theorem rr_next {W : World} {s : ByteArray} {w2 : World} {rs : List Int} {rest : List UInt8} {x : Int} {v2 : Value} (hv : ∀ r ∈ rs, V r) (hs : s.data.toList = encAll rs ++ rest) (hx : V x) {y : List UInt8} (hr : rest = enc x ++ y) {j n : Nat}
    (hj : (encAll rs).length = j) (hn : (enc x).length = n) (hown : Own w2 W.heap.size 21 .i32 v2 (rs ++ [x])) (hb : Below W.heap.size W w2) : RRRel W s v2 (.int .i64 ((j : Int) + (n : Int))) w2 := by
  refine ⟨rs ++ [x], y, ?_, ?_, ?_, hown, hb⟩
  · intro r h
    rcases List.mem_append.1 h with h | h
    · exact hv r h
    · simp at h; subst h; exact hx
  · rw [hs, hr, encAll_append, List.append_assoc]; simp
  · rw [encAll_append]; simp [hj, hn]

set_option maxHeartbeats 16000000 in
set_option maxRecDepth 100000 in
theorem refRead_any (s : ByteArray) (W : World) (hl : s.size ≤ 100000) :
    Calls Tryd.prog 10 #[.string s] W (RRes s W) := by
  go_enter Tryd.func10, Tryd.ntmps10
  go_wp2_with fail
  go_loopw [4, 5] (fun v i wr => RRRel W s v i wr) (fun _ i _ => s.size - (intOf i).toNat)
  case atStart => exact ⟨[], s.data.toList, fun r hr => by simp at hr, rfl, rfl, Own.nil _ _ _ _, Below.refl _ _⟩
  case round =>
    obtain ⟨rs, rest, hv, hs, rfl, hown, hb⟩ := hrel
    have hsz := size_of hs
    simp only [List.length_append] at hsz
    have hrsl := rs_le rs
    rcases rest with _ | ⟨b0, t⟩
    · simp only [List.length_nil, Nat.add_zero] at hsz
      rw [List.append_nil] at hs
      generalize hj : (encAll rs).length = j at hsz hrsl ⊢
      have hge : ¬ (j : Int) < (s.size : Int) := by omega
      have hj' := Lib.hid hj; clear hj hsz
      have HS := Lib.hid hs; clear hs
      have HV := Lib.hid hv; clear hv
      obtain ⟨q, d, rfl, hd, hrow⟩ := hown.row
      have HR := Lib.hid hrow; clear hrow hown
      go_wp2
      go_ret2
      exact ⟨fun rs' hv' hs' => by
        obtain rfl := encAll_inj hv' HV.out (hs'.symm.trans HS.out)
        exact ⟨q, d, rfl, hd, hb, HR.out⟩, fun h => absurd ⟨rs, HV.out, HS.out⟩ h, hb⟩
    · simp only [List.length_cons] at hsz
      have hlt : (encAll rs).length < s.size := by omega
      have hbyte := byte_of hs hlt
      have l0 := b0.toNat_lt
      generalize hj : (encAll rs).length = j at hsz hlt hbyte hrsl ⊢
      have hlt' : (j : Int) < (s.size : Int) := by omega
      have hj' := Lib.hid hj; clear hj
      have hsz' := Lib.hid hsz; clear hsz
      have HS := Lib.hid hs; clear hs
      have HV := Lib.hid hv; clear hv
      have HO := Lib.hid hown; clear hown
      by_cases c1 : b0.toNat < 128
      · have c1' : (b0.toNat : Int) < 128 := by omega
        have hx := leaf1 b0 c1
        have HVx := Lib.hid hx.1
        have HEx := Lib.hid hx.2
        clear hx
        go_wp2_with fail
        refine wp_loop_rounds 1 ?_
        rw [rounds_succ]
        go_wp2_with (first | (go_at_call 17; refine (refMay_yes (b0.toNat : Int) HVx.out wr).mono ?_; rintro e w1 ⟨rfl, rfl⟩) | (at_builtin; refine wpList_own_push rfl _ _ 23 rfl 21 .i32 4 Tryd.underlying23 info_rune (by decide) W.heap.size _ _ rfl (HO.out.alloc _) wr.heap.size 1 1 [(b0.toNat : Int)] rfl rfl ?newCells ?short ?below ?_))
        case newCells => intro i hi; obtain rfl : i = 0 := by omega
                         simp
        case short => have := hrsl; omega
        case below => have := hb.size; simp; omega
        intro v2 w2 hown2 hgrow
        have hb2 : Below W.heap.size W w2 := (hb.alloc hb.size _).grown hgrow (by have := hb.size; simp; omega) (fun g hg => HO.out.lt g hg)
        have HO2 := Lib.hid hown2; clear hown2 hgrow
        go_wp2
        go_roundw
        case rel => exact rr_next HV.out HS.out HVx.out (y := t) (by rw [HEx.out]; rfl) hj'.out (by rw [HEx.out]; rfl) HO2.out hb2
        case measure => simp [intOf]; omega
      by_cases c0 : b0.toNat < 194 ∨ 245 ≤ b0.toNat
      · have a1 : (128 : Int) ≤ b0.toNat := by omega
        rcases c0 with c0 | c0
        · have a2 : (b0.toNat : Int) < 194 := by omega
          have HNo := Lib.hid (no_txt_of HS.out HV.out (bad_lead (by omega) (Or.inl c0)))
          go_wp2
          go_ret2
          exact ⟨fun rs' hv' hs' => absurd ⟨rs', hv', hs'⟩ HNo.out, fun _ => rfl, hb⟩
        · have a2 : (245 : Int) ≤ b0.toNat := by omega
          have HNo := Lib.hid (no_txt_of HS.out HV.out (bad_lead (by omega) (Or.inr c0)))
          go_wp2
          go_ret2
          exact ⟨fun rs' hv' hs' => absurd ⟨rs', hv', hs'⟩ HNo.out, fun _ => rfl, hb⟩
      by_cases c2 : b0.toNat < 224
      · have a1' : 194 ≤ b0.toNat := by omega
        have a2' : b0.toNat < 224 := by omega
        have a1 : (194 : Int) ≤ b0.toNat := by omega
        have a2 : (b0.toNat : Int) < 224 := by omega
        clear c0 c1
        rcases t with _ | ⟨b1, t⟩
        · have hsh : (s.size : Int) < (j : Int) + 2 := by have := hsz'.out; simp at this; omega
          have HNo := Lib.hid (no_txt_of HS.out HV.out (bad_two a1' a2' (fun _ _ e _ => by simp at e)))
          go_wp2
          go_ret2
          exact ⟨fun rs' hv' hs' => absurd ⟨rs', hv', hs'⟩ HNo.out, fun _ => rfl, hb⟩
        · obtain ⟨hk1, hb1⟩ := byte_k HS.out hj'.out (show (b0 :: b1 :: t)[1]? = some b1 from rfl)
          have hl1 : (j : Int) + 1 < s.size := by omega
          have l1 := b1.toNat_lt
          by_cases d1 : b1.toNat / 64 = 2
          · have e1 := cont_yes b1 d1
            have hx := leaf2 b0 b1 a1' a2' d1
            have HVx := Lib.hid hx.1
            have HEx := Lib.hid hx.2
            clear hx
            go_wp2_with fail
            refine wp_loop_rounds 2 ?_
            rw [rounds_succ]
            go_wp2_with fail
            rw [rounds_succ]
            go_wp2_with (first | (go_at_call 17; refine (refMay_yes ((b0.toNat : Int) % 32 * 64 + (b1.toNat : Int) % 64) HVx.out wr).mono ?_; rintro e w1 ⟨rfl, rfl⟩) | (at_builtin; refine wpList_own_push rfl _ _ 23 rfl 21 .i32 4 Tryd.underlying23 info_rune (by decide) W.heap.size _ _ rfl (HO.out.alloc _) wr.heap.size 1 1 [((b0.toNat : Int) % 32 * 64 + (b1.toNat : Int) % 64)] rfl rfl ?newCells ?short ?below ?_))
            case newCells => intro i hi; obtain rfl : i = 0 := by omega
                             simp
            case short => have := hrsl; omega
            case below => have := hb.size; simp; omega
            intro v2 w2 hown2 hgrow
            have hb2 : Below W.heap.size W w2 := (hb.alloc hb.size _).grown hgrow (by have := hb.size; simp; omega) (fun g hg => HO.out.lt g hg)
            have HO2 := Lib.hid hown2; clear hown2 hgrow
            go_wp2
            go_roundw
            case rel => exact rr_next HV.out HS.out HVx.out (y := t) (by rw [HEx.out]; rfl) hj'.out (by rw [HEx.out]; rfl) HO2.out hb2
            case measure => simp [intOf]; omega
          · have e1 := cont_no b1 d1
            have HNo := Lib.hid (no_txt_of HS.out HV.out (bad_two a1' a2' (fun _ _ e k1 => by simp only [List.cons.injEq] at e; obtain ⟨rfl, _⟩ := e; exact d1 k1)))
            go_wp2_with fail
            refine wp_loop_rounds 1 ?_
            rw [rounds_succ]
            go_wp2_with (fail)
            go_ret2
            exact ⟨fun rs' hv' hs' => absurd ⟨rs', hv', hs'⟩ HNo.out, fun _ => rfl, hb⟩
      by_cases c3 : b0.toNat < 240
      · have a1' : 224 ≤ b0.toNat := by omega
        have a2' : b0.toNat < 240 := by omega
        have a1 : (224 : Int) ≤ b0.toNat := by omega
        have a2 : (b0.toNat : Int) < 240 := by omega
        clear c0 c1
        rcases t with _ | ⟨b1, t⟩
        · have hsh : (s.size : Int) < (j : Int) + 3 := by have := hsz'.out; simp at this; omega
          have HNo := Lib.hid (no_txt_of HS.out HV.out (bad_three a1' a2' (fun _ _ _ e _ _ _ _ => by simp at e)))
          go_wp2
          go_ret2
          exact ⟨fun rs' hv' hs' => absurd ⟨rs', hv', hs'⟩ HNo.out, fun _ => rfl, hb⟩
        · obtain ⟨hk1, hb1⟩ := byte_k HS.out hj'.out (show (b0 :: b1 :: t)[1]? = some b1 from rfl)
          have hl1 : (j : Int) + 1 < s.size := by omega
          have l1 := b1.toNat_lt
          rcases t with _ | ⟨b2, t⟩
          · have hsh : (s.size : Int) < (j : Int) + 3 := by have := hsz'.out; simp at this; omega
            have HNo := Lib.hid (no_txt_of HS.out HV.out (bad_three a1' a2' (fun _ _ _ e _ _ _ _ => by simp at e)))
            go_wp2
            go_ret2
            exact ⟨fun rs' hv' hs' => absurd ⟨rs', hv', hs'⟩ HNo.out, fun _ => rfl, hb⟩
          · obtain ⟨hk2, hb2⟩ := byte_k HS.out hj'.out (show (b0 :: b1 :: b2 :: t)[2]? = some b2 from rfl)
            have hl2 : (j : Int) + 2 < s.size := by omega
            have l2 := b2.toNat_lt
            obtain ⟨r1, hr1⟩ : ∃ r1 : Int, r1 = (b0.toNat : Int) % 16 * 64 + (b1.toNat : Int) % 64 := ⟨_, rfl⟩
            have hr1a : 0 ≤ r1 := by omega
            have hr1b : r1 ≤ 1023 := by omega
            have HR1 := Lib.hid hr1; clear hr1
            have hv3 : v3 b0 b1 b2 = r1 * 64 + (b2.toNat : Int) % 64 := by rw [HR1.out]; rfl
            have HV3 := Lib.hid hv3; clear hv3
            by_cases d1 : b1.toNat / 64 = 2
            · have e1 := cont_yes b1 d1
              by_cases d2 : b2.toNat / 64 = 2
              · have e2 := cont_yes b2 d2
                by_cases g1 : v3 b0 b1 b2 < 2048
                · have HNo := Lib.hid (no_txt_of HS.out HV.out (bad_three a1' a2' (fun _ _ _ e k1 k2 k3 k4 => by simp only [List.cons.injEq] at e; obtain ⟨rfl, rfl, _⟩ := e; exact by omega)))
                  have G2 := Lib.hid (show (r1 * 64 + (b2.toNat : Int) % 64) < 2048 from by rw [← HV3.out]; exact g1)
                  clear g1
                  go_wp2_with fail
                  refine wp_loop_rounds 3 ?_
                  rw [rounds_succ]
                  go_wp2_with fail
                  rw [← HR1.out]
                  rw [rounds_succ]
                  go_wp2_with fail
                  rw [rounds_succ]
                  have g2 := G2.out
                  go_wp2_with (fail)
                  go_ret2
                  exact ⟨fun rs' hv' hs' => absurd ⟨rs', hv', hs'⟩ HNo.out, fun _ => rfl, hb⟩
                · have G2 := Lib.hid (show ¬ (r1 * 64 + (b2.toNat : Int) % 64) < 2048 from by rw [← HV3.out]; exact g1)
                  by_cases g3 : v3 b0 b1 b2 < 55296 ∨ 57343 < v3 b0 b1 b2
                  · have hx := leaf3 b0 b1 b2 a1' a2' d1 d2 ⟨Int.not_lt.1 g1, g3⟩
                    rw [HV3.out] at hx
                    have HVx := Lib.hid hx.1
                    have HEx := Lib.hid hx.2
                    clear hx g1 g3 d1 d2
                    go_wp2_with fail
                    refine wp_loop_rounds 3 ?_
                    rw [rounds_succ]
                    go_wp2_with fail
                    rw [← HR1.out]
                    rw [rounds_succ]
                    go_wp2_with fail
                    rw [rounds_succ]
                    have g2 := G2.out
                    go_wp2_with (first | (go_at_call 17; refine (refMay_yes (r1 * 64 + (b2.toNat : Int) % 64) HVx.out wr).mono ?_; rintro e w1 ⟨rfl, rfl⟩) | (at_builtin; refine wpList_own_push rfl _ _ 23 rfl 21 .i32 4 Tryd.underlying23 info_rune (by decide) W.heap.size _ _ rfl (HO.out.alloc _) wr.heap.size 1 1 [(r1 * 64 + (b2.toNat : Int) % 64)] rfl rfl ?newCells ?short ?below ?_))
                    case newCells => intro i hi; obtain rfl : i = 0 := by omega
                                     simp
                    case short => have := hrsl; omega
                    case below => have := hb.size; simp; omega
                    intro v2 w2 hown2 hgrow
                    have hb2 : Below W.heap.size W w2 := (hb.alloc hb.size _).grown hgrow (by have := hb.size; simp; omega) (fun g hg => HO.out.lt g hg)
                    have HO2 := Lib.hid hown2; clear hown2 hgrow
                    go_wp2
                    go_roundw
                    case rel => exact rr_next HV.out HS.out HVx.out (y := t) (by rw [HEx.out]; rfl) hj'.out (by rw [HEx.out]; rfl) HO2.out hb2
                    case measure => simp [intOf]; omega
                  · have HVx := Lib.hid (show ¬ V (r1 * 64 + (b2.toNat : Int) % 64) from fun h => g3 (by rw [HV3.out]; unfold V at h; omega))
                    have HNo := Lib.hid (no_txt_of HS.out HV.out (bad_three a1' a2' (fun _ _ _ e k1 k2 k3 k4 => by simp only [List.cons.injEq] at e; obtain ⟨rfl, rfl, _⟩ := e; exact g3 k4)))
                    clear g1 g3
                    go_wp2_with fail
                    refine wp_loop_rounds 3 ?_
                    rw [rounds_succ]
                    go_wp2_with fail
                    rw [← HR1.out]
                    rw [rounds_succ]
                    go_wp2_with fail
                    rw [rounds_succ]
                    have g2 := G2.out
                    go_wp2_with ((go_at_call 17; refine (refMay_no (r1 * 64 + (b2.toNat : Int) % 64) HVx.out wr).mono ?_; rintro e w1 ⟨rfl, rfl⟩))
                    go_ret2
                    exact ⟨fun rs' hv' hs' => absurd ⟨rs', hv', hs'⟩ HNo.out, fun _ => rfl, hb⟩
              · have e2 := cont_no b2 d2
                have HNo := Lib.hid (no_txt_of HS.out HV.out (bad_three a1' a2' (fun _ _ _ e k1 k2 k3 k4 => by simp only [List.cons.injEq] at e; obtain ⟨rfl, rfl, _⟩ := e; exact d2 k2)))
                go_wp2_with fail
                refine wp_loop_rounds 2 ?_
                rw [rounds_succ]
                go_wp2_with fail
                rw [← HR1.out]
                rw [rounds_succ]
                go_wp2_with (fail)
                go_ret2
                exact ⟨fun rs' hv' hs' => absurd ⟨rs', hv', hs'⟩ HNo.out, fun _ => rfl, hb⟩
            · have e1 := cont_no b1 d1
              have HNo := Lib.hid (no_txt_of HS.out HV.out (bad_three a1' a2' (fun _ _ _ e k1 k2 k3 k4 => by simp only [List.cons.injEq] at e; obtain ⟨rfl, rfl, _⟩ := e; exact d1 k1)))
              go_wp2_with fail
              refine wp_loop_rounds 1 ?_
              rw [rounds_succ]
              go_wp2_with (fail)
              go_ret2
              exact ⟨fun rs' hv' hs' => absurd ⟨rs', hv', hs'⟩ HNo.out, fun _ => rfl, hb⟩
      · have a1' : 240 ≤ b0.toNat := by omega
        have a2' : b0.toNat < 245 := by omega
        have a1 : (240 : Int) ≤ b0.toNat := by omega
        have a2 : (b0.toNat : Int) < 245 := by omega
        clear c0 c1
        rcases t with _ | ⟨b1, t⟩
        · have hsh : (s.size : Int) < (j : Int) + 4 := by have := hsz'.out; simp at this; omega
          have HNo := Lib.hid (no_txt_of HS.out HV.out (bad_four a1' a2' (fun _ _ _ _ e _ _ _ _ _ => by simp at e)))
          go_wp2
          go_ret2
          exact ⟨fun rs' hv' hs' => absurd ⟨rs', hv', hs'⟩ HNo.out, fun _ => rfl, hb⟩
        · obtain ⟨hk1, hb1⟩ := byte_k HS.out hj'.out (show (b0 :: b1 :: t)[1]? = some b1 from rfl)
          have hl1 : (j : Int) + 1 < s.size := by omega
          have l1 := b1.toNat_lt
          rcases t with _ | ⟨b2, t⟩
          · have hsh : (s.size : Int) < (j : Int) + 4 := by have := hsz'.out; simp at this; omega
            have HNo := Lib.hid (no_txt_of HS.out HV.out (bad_four a1' a2' (fun _ _ _ _ e _ _ _ _ _ => by simp at e)))
            go_wp2
            go_ret2
            exact ⟨fun rs' hv' hs' => absurd ⟨rs', hv', hs'⟩ HNo.out, fun _ => rfl, hb⟩
          · obtain ⟨hk2, hb2⟩ := byte_k HS.out hj'.out (show (b0 :: b1 :: b2 :: t)[2]? = some b2 from rfl)
            have hl2 : (j : Int) + 2 < s.size := by omega
            have l2 := b2.toNat_lt
            rcases t with _ | ⟨b3, t⟩
            · have hsh : (s.size : Int) < (j : Int) + 4 := by have := hsz'.out; simp at this; omega
              have HNo := Lib.hid (no_txt_of HS.out HV.out (bad_four a1' a2' (fun _ _ _ _ e _ _ _ _ _ => by simp at e)))
              go_wp2
              go_ret2
              exact ⟨fun rs' hv' hs' => absurd ⟨rs', hv', hs'⟩ HNo.out, fun _ => rfl, hb⟩
            · obtain ⟨hk3, hb3⟩ := byte_k HS.out hj'.out (show (b0 :: b1 :: b2 :: b3 :: t)[3]? = some b3 from rfl)
              have hl3 : (j : Int) + 3 < s.size := by omega
              have l3 := b3.toNat_lt
              obtain ⟨r1, hr1⟩ : ∃ r1 : Int, r1 = (b0.toNat : Int) % 8 * 64 + (b1.toNat : Int) % 64 := ⟨_, rfl⟩
              have hr1a : 0 ≤ r1 := by omega
              have hr1b : r1 ≤ 511 := by omega
              have HR1 := Lib.hid hr1; clear hr1
              obtain ⟨r2, hr2⟩ : ∃ r2 : Int, r2 = r1 * 64 + (b2.toNat : Int) % 64 := ⟨_, rfl⟩
              have hr2a : 0 ≤ r2 := by omega
              have hr2b : r2 ≤ 32767 := by omega
              have HR2 := Lib.hid hr2; clear hr2
              have hv4 : v4 b0 b1 b2 b3 = r2 * 64 + (b3.toNat : Int) % 64 := by rw [HR2.out, HR1.out]; rfl
              have HV4 := Lib.hid hv4; clear hv4
              by_cases d1 : b1.toNat / 64 = 2
              · have e1 := cont_yes b1 d1
                by_cases d2 : b2.toNat / 64 = 2
                · have e2 := cont_yes b2 d2
                  by_cases d3 : b3.toNat / 64 = 2
                  · have e3 := cont_yes b3 d3
                    by_cases g1 : v4 b0 b1 b2 b3 < 65536
                    · have HNo := Lib.hid (no_txt_of HS.out HV.out (bad_four a1' a2' (fun _ _ _ _ e k1 k2 k3 k4 k5 => by simp only [List.cons.injEq] at e; obtain ⟨rfl, rfl, rfl, _⟩ := e; exact by omega)))
                      have G2 := Lib.hid (show (r2 * 64 + (b3.toNat : Int) % 64) < 65536 from by rw [← HV4.out]; exact g1)
                      clear g1
                      go_wp2_with fail
                      refine wp_loop_rounds 4 ?_
                      rw [rounds_succ]
                      go_wp2_with fail
                      rw [← HR1.out]
                      rw [rounds_succ]
                      go_wp2_with fail
                      rw [← HR2.out]
                      rw [rounds_succ]
                      go_wp2_with fail
                      rw [rounds_succ]
                      have g2 := G2.out
                      go_wp2_with (fail)
                      go_ret2
                      exact ⟨fun rs' hv' hs' => absurd ⟨rs', hv', hs'⟩ HNo.out, fun _ => rfl, hb⟩
                    · have G2 := Lib.hid (show ¬ (r2 * 64 + (b3.toNat : Int) % 64) < 65536 from by rw [← HV4.out]; exact g1)
                      by_cases g3 : v4 b0 b1 b2 b3 ≤ 1114111
                      · have hx := leaf4 b0 b1 b2 b3 a1' a2' d1 d2 d3 ⟨Int.not_lt.1 g1, g3⟩
                        rw [HV4.out] at hx
                        have HVx := Lib.hid hx.1
                        have HEx := Lib.hid hx.2
                        clear hx g1 g3 d1 d2
                        go_wp2_with fail
                        refine wp_loop_rounds 4 ?_
                        rw [rounds_succ]
                        go_wp2_with fail
                        rw [← HR1.out]
                        rw [rounds_succ]
                        go_wp2_with fail
                        rw [← HR2.out]
                        rw [rounds_succ]
                        go_wp2_with fail
                        rw [rounds_succ]
                        have g2 := G2.out
                        go_wp2_with (first | (go_at_call 17; refine (refMay_yes (r2 * 64 + (b3.toNat : Int) % 64) HVx.out wr).mono ?_; rintro e w1 ⟨rfl, rfl⟩) | (at_builtin; refine wpList_own_push rfl _ _ 23 rfl 21 .i32 4 Tryd.underlying23 info_rune (by decide) W.heap.size _ _ rfl (HO.out.alloc _) wr.heap.size 1 1 [(r2 * 64 + (b3.toNat : Int) % 64)] rfl rfl ?newCells ?short ?below ?_))
                        case newCells => intro i hi; obtain rfl : i = 0 := by omega
                                         simp
                        case short => have := hrsl; omega
                        case below => have := hb.size; simp; omega
                        intro v2 w2 hown2 hgrow
                        have hb2 : Below W.heap.size W w2 := (hb.alloc hb.size _).grown hgrow (by have := hb.size; simp; omega) (fun g hg => HO.out.lt g hg)
                        have HO2 := Lib.hid hown2; clear hown2 hgrow
                        go_wp2
                        go_roundw
                        case rel => exact rr_next HV.out HS.out HVx.out (y := t) (by rw [HEx.out]; rfl) hj'.out (by rw [HEx.out]; rfl) HO2.out hb2
                        case measure => simp [intOf]; omega
                      · have HVx := Lib.hid (show ¬ V (r2 * 64 + (b3.toNat : Int) % 64) from fun h => g3 (by rw [HV4.out]; unfold V at h; omega))
                        have HNo := Lib.hid (no_txt_of HS.out HV.out (bad_four a1' a2' (fun _ _ _ _ e k1 k2 k3 k4 k5 => by simp only [List.cons.injEq] at e; obtain ⟨rfl, rfl, rfl, _⟩ := e; exact g3 k5)))
                        clear g1 g3
                        go_wp2_with fail
                        refine wp_loop_rounds 4 ?_
                        rw [rounds_succ]
                        go_wp2_with fail
                        rw [← HR1.out]
                        rw [rounds_succ]
                        go_wp2_with fail
                        rw [← HR2.out]
                        rw [rounds_succ]
                        go_wp2_with fail
                        rw [rounds_succ]
                        have g2 := G2.out
                        go_wp2_with ((go_at_call 17; refine (refMay_no (r2 * 64 + (b3.toNat : Int) % 64) HVx.out wr).mono ?_; rintro e w1 ⟨rfl, rfl⟩))
                        go_ret2
                        exact ⟨fun rs' hv' hs' => absurd ⟨rs', hv', hs'⟩ HNo.out, fun _ => rfl, hb⟩
                  · have e3 := cont_no b3 d3
                    have HNo := Lib.hid (no_txt_of HS.out HV.out (bad_four a1' a2' (fun _ _ _ _ e k1 k2 k3 k4 k5 => by simp only [List.cons.injEq] at e; obtain ⟨rfl, rfl, rfl, _⟩ := e; exact d3 k3)))
                    go_wp2_with fail
                    refine wp_loop_rounds 3 ?_
                    rw [rounds_succ]
                    go_wp2_with fail
                    rw [← HR1.out]
                    rw [rounds_succ]
                    go_wp2_with fail
                    rw [← HR2.out]
                    rw [rounds_succ]
                    go_wp2_with (fail)
                    go_ret2
                    exact ⟨fun rs' hv' hs' => absurd ⟨rs', hv', hs'⟩ HNo.out, fun _ => rfl, hb⟩
                · have e2 := cont_no b2 d2
                  have HNo := Lib.hid (no_txt_of HS.out HV.out (bad_four a1' a2' (fun _ _ _ _ e k1 k2 k3 k4 k5 => by simp only [List.cons.injEq] at e; obtain ⟨rfl, rfl, rfl, _⟩ := e; exact d2 k2)))
                  go_wp2_with fail
                  refine wp_loop_rounds 2 ?_
                  rw [rounds_succ]
                  go_wp2_with fail
                  rw [← HR1.out]
                  rw [rounds_succ]
                  go_wp2_with (fail)
                  go_ret2
                  exact ⟨fun rs' hv' hs' => absurd ⟨rs', hv', hs'⟩ HNo.out, fun _ => rfl, hb⟩
              · have e1 := cont_no b1 d1
                have HNo := Lib.hid (no_txt_of HS.out HV.out (bad_four a1' a2' (fun _ _ _ _ e k1 k2 k3 k4 k5 => by simp only [List.cons.injEq] at e; obtain ⟨rfl, rfl, rfl, _⟩ := e; exact d1 k1)))
                go_wp2_with fail
                refine wp_loop_rounds 1 ?_
                rw [rounds_succ]
                go_wp2_with (fail)
                go_ret2
                exact ⟨fun rs' hv' hs' => absurd ⟨rs', hv', hs'⟩ HNo.out, fun _ => rfl, hb⟩
end Go.Proofs.YtligebpjeolpmaaDoor
