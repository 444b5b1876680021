/-
  Layer atlas, the law's: Small, with what it sums.
-/
import Derived.Test.YtbhojddakmgdmaaMg13
import Derived.Test.YtbhojddakmgdmaaSpFewS
namespace Go.Proofs.Ytbhojddakmgdmaa
open Go.RowKit Go.Gz

def RetSmS (w : World) (L : List Sd) (e : Ending) (w' : World) : Prop := ∃ b, e = .returned (.bool b) ∧ (b = true → L.length ≤ 60 ∧ wrap64 (sumZ szS (L.map Sd.sp)) ≤ 3000) ∧ Below w.heap.size w w'
set_option maxHeartbeats 4000000 in
set_option maxRecDepth 100000 in
theorem smallAS_any (w : World) (ep : Int) (L : List Sd) (p : Option Addr) (ca : Nat) (hp : RowK KS w p L) (hL : L.length ≤ 9223372036854775807) :
    Calls Try.prog 17 #[.agg #[.int .i64 ep, .slice p L.length ca]] w (RetSmS w L) := by
  obtain ⟨n, hN⟩ : ∃ n, L.length = n := ⟨_, rfl⟩
  have HN := Lib.hid hN
  rw [hN] at hL ⊢
  obtain ⟨w0, hw0⟩ : ∃ w0, w.alloc (.cells #[.int .i64 ep, .slice p n ca] 34) = w0 := ⟨_, rfl⟩
  have HB0 := Lib.hid (show Below w.heap.size w w0 from hw0 ▸ below_alloc _ _)
  have HBX := Lib.hid (show BoxA w0 w.heap.size ep (.slice p n ca) from hw0 ▸ BoxA.new w _ _ _)
  have HR := Lib.hid (hp.below HB0.out)
  have HF := Lib.hid (show ∀ b : Bool, ∀ w', (b = true → L.length ≤ 60 ∧ wrap64 (sumZ szS (L.map Sd.sp)) ≤ 3000) → Below w0.heap.size w0 w' → RetSmS w L (.returned (.bool b)) w' from fun b w' h1 h2 => ⟨b, rfl, h1, HB0.out.trans (h2.mono HB0.out.size)⟩)
  have HW0 := Lib.hid hw0
  clear hN hp hw0
  go_enter Try.func17, Try.ntmps17
  go_wp2_with fail
  rw [HW0.out]
  go_loopw [3, 4] (fun v i wr => ∃ k : Nat, i = .int .i64 k ∧ k ≤ n ∧ k ≤ 100 ∧ Hid (OwnK KP wr w0.heap.size 30 v ((L.take k).map Sd.sp)) ∧ Hid (Below w0.heap.size w0 wr)) (fun _ i _ => n - (RowKit.intOf i).toNat)
  case atStart => exact ⟨0, rfl, Nat.zero_le _, by omega, Lib.hid (OwnK.nil KP _ _ _), Lib.hid (Below.refl _ _)⟩
  case round =>
    obtain ⟨k, rfl, hkn, hk1, HOW, BW⟩ := hrel
    obtain ⟨hkb, x0, x1⟩ := HBX.out.below BW.out
    rcases Nat.lt_or_ge k n with hk | hk
    · have hkz : (k : Int) < (n : Int) := by omega
      rcases Nat.lt_or_ge k 100 with h1 | h1
      · have h1z : (k : Int) < 100 := by omega
        have hklt : k < L.length := by rw [HN.out]; exact hk
        obtain ⟨e, he⟩ : ∃ e, L.getD k default = e := ⟨_, rfl⟩
        obtain ⟨pb, po, rfl, hpb, hcell⟩ := HR.out.cells BW.out hklt
        rw [he] at hcell
        have HTK := Lib.hid (show (L.take (k + 1)).map Sd.sp = (L.take k).map Sd.sp ++ [e.sp] by
          rw [List.take_succ_eq_append_getElem hklt, ← he, List.map_append]
          simp [List.getD, hklt])
        have HLK := Lib.hid (show ((L.take k).map Sd.sp).length = k by rw [List.length_map, List.length_take]; omega)
        have HON := Lib.hid (RowK.block KP (L := [e.sp]) (alloc_at wr (.cells #[.string e.sp.f, .string e.sp.t] 30)))
        obtain ⟨⟨ef, et⟩, en, ee⟩ := e
        have z0 := hcell 0 (by decide)
        have z1 := hcell 1 (by decide)
        simp only [KS, Nat.add_zero] at z0 z1
        simp only at HON HTK
        clear hcell he
        obtain ⟨q, c, hvq, _⟩ := HOW.out.row
        go_wp2_with (at_builtin; refine wpList_app_k skt_span rfl _ _ rfl rfl (HOW.out.alloc _) (some ⟨wr.heap.size, 0, none⟩) 1 [⟨ef, et⟩] rfl HON.out (fun h => by cases h) (by have := HLK.out; simp only [List.length_cons, List.length_nil]; omega) (by have := BW.out.size; simp; omega) ?_; intro v4 w4 hown4 hgrow4 hat4)
        have HO4 := Lib.hid (show OwnK KP w4 w0.heap.size 30 v4 ((L.take (k + 1)).map Sd.sp) by rw [HTK.out]; exact hown4)
        have HB4 := Lib.hid ((BW.out.alloc BW.out.size _).grown hgrow4 (by have := BW.out.size; simp; omega) (fun g hg => (HOW.out.ltB g hg).1))
        exact ⟨⟨k + 1, by go_num, hk, by omega, HO4, HB4⟩, by simp [RowKit.intOf]; omega⟩
      · have h1z : ¬ (k : Int) < 100 := by omega
        have h60 : ¬ (n : Int) ≤ 60 := by omega
        have HQ := Lib.hid (HF.out false wr (fun h => by cases h) BW.out)
        clear HOW
        go_wp2_with fail
        go_ret
        exact HQ.out
    · have hkz : ¬ (k : Int) < (n : Int) := by omega
      obtain rfl : k = n := by omega
      by_cases h60 : k ≤ 60
      · have h60z : (k : Int) ≤ 60 := by omega
        obtain ⟨q, c, hvq, _, _, hrow, _⟩ := HOW.out.row
        have hlen : ((L.take k).map Sd.sp).length = k := by rw [List.length_map, List.length_take, HN.out]; omega
        have CF := Lib.hid (fewS_any ((L.take k).map Sd.sp) q c wr (spans_of hrow) (by rw [hlen]; omega))
        rw [hlen] at CF hvq
        subst hvq
        clear hrow HOW
        go_wp2_with fail
        refine CF.out.mono ?_
        rintro e w5 ⟨b, rfl, hb, hbl⟩
        have HQ := Lib.hid (HF.out b w5 (fun h => ⟨by rw [HN.out]; exact h60, by
          have := (hb h).2
          rwa [List.take_of_length_le (by rw [HN.out]; exact Nat.le_refl _)] at this⟩) (BW.out.trans (hbl.mono BW.out.size)))
        clear hb hbl
        go_wp2_with fail
        go_ret
        exact HQ.out
      · have h60z : ¬ (k : Int) ≤ 60 := by omega
        have HQ := Lib.hid (HF.out false wr (fun h => by cases h) BW.out)
        clear HOW
        go_wp2_with fail
        go_ret
        exact HQ.out
end Go.Proofs.Ytbhojddakmgdmaa
