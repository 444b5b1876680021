/-
  Layer atlas: lists made of lists: the spans of shards, shards of spans.
-/
import Derived.Test.YtodcnemnajlbdaaAtFind
import Derived.Laws.MakeOwn
namespace Go.Gz
open Go.RowKit
section
variable {P : Program} {α : Type} {K : SK α} {t T : TypeId} {z : Value} {bytes : Nat}
/-- make([]T, 0, n) of structs. -/
theorem make_k (ET : SKT P K t T z bytes) (n : Nat) (hn : n ≤ 1000000) (w : World) : ∃ w', (Instr.makeSlice T (.int .i64 0) (.int .i64 (n : Int))).run P w = .ok (.slice (some ⟨w.heap.size, 0, none⟩) 0 n) w' ∧
    OwnK K w' w.heap.size t (.slice (some ⟨w.heap.size, 0, none⟩) 0 n) [] ∧ w.grownBy w' none := by
  obtain ⟨i0, hi, hz0, hz1, hz2⟩ := info_parts ET.info
  have hb : i0.bytes * n ≤ 281474976710656 := by
    rw [hz2]
    exact Nat.le_trans (Nat.mul_le_mul ET.by_ hn) (by decide)
  exact run_make_own w w.heap.size T t i0 z K.n ET.sl hi hz0 hz1 .i64 .i64 n hb (by unfold maxLen; omega) (Nat.le_refl _)
end
end Go.Gz
namespace Go.Proofs.Ytodcnemnajlbdaa
open Go.RowKit Go.Gz

def RetK {α : Type} (K : SK α) (w : World) (t : TypeId) (L : List α) (e : Ending) (w' : World) : Prop := ∃ v, e = .returned v ∧ OwnK K w' w.heap.size t v L ∧ Below w.heap.size w w'

set_option maxHeartbeats 4000000 in
set_option maxRecDepth 100000 in
theorem list_sp (L : List Sd) (p : Option Addr) (c : Nat) (w : World) (hp : RowK KS w p L) (hL : L.length ≤ 1000000) :
    Calls Try.prog 25 #[.slice p L.length c, .func (.func 26) #[] #[]] w (RetK KP w 38 (L.map Sd.sp)) := by
  have eg : ∀ args w, (callFunc 26 args).run Try.prog w = .ok (.enter 26 args) w := fun _ _ => rfl
  obtain ⟨n, hN⟩ : ∃ n, L.length = n := ⟨_, rfl⟩
  have HN := Lib.hid hN
  rw [hN] at hL ⊢
  obtain ⟨w0, hmk, hown, hgr⟩ := make_k skt_span n hL w
  have HO0 := Lib.hid hown
  have HB0 := Lib.hid ((Below.refl w.heap.size w).grown hgr (Nat.le_refl _) (fun g hg => by cases hg))
  have HP := Lib.hid hp
  have HF := Lib.hid (show ∀ v w', OwnK KP w' w.heap.size 38 v (L.map Sd.sp) → Below w.heap.size w w' → RetK KP w 38 (L.map Sd.sp) (.returned v) w' from fun v w' h1 h2 => ⟨v, rfl, h1, h2⟩)
  clear hN hp hown hgr
  go_enter Try.func25, Try.ntmps25
  go_wp2_with fail
  go_loopw [5, 13] (fun v i wr => ∃ k : Nat, i = .int .i64 k ∧ k ≤ n ∧ Hid (OwnK KP wr w.heap.size 38 v ((L.take k).map Sd.sp)) ∧ Hid (Below w.heap.size w wr)) (fun _ i _ => n - (RowKit.intOf i).toNat)
  case atStart => exact ⟨0, rfl, Nat.zero_le _, HO0, HB0⟩
  case round =>
    obtain ⟨k, rfl, hkn, HOW, BW⟩ := hrel
    rcases Nat.lt_or_ge k n with hk | hk
    · have hkz : (k : Int) < (n : Int) := by omega
      have hklt : k < L.length := by rw [HN.out]; exact hk
      obtain ⟨e, he⟩ : ∃ e, L.getD k default = e := ⟨_, rfl⟩
      obtain ⟨pb, po, rfl, hpb, hcell⟩ := HP.out.cells BW.out hklt
      rw [he] at hcell
      have HTK := Lib.hid (show (L.take (k + 1)).map Sd.sp = (L.take k).map Sd.sp ++ [e.sp] by
        rw [List.take_succ_eq_append_getElem hklt, ← he, List.map_append]
        simp [List.getD, hklt])
      have HLK := Lib.hid (show ((L.take k).map Sd.sp).length = k by rw [List.length_map, List.length_take]; omega)
      have CS := Lib.hid (fun w1 => spanOf_any e w1)
      obtain ⟨⟨ef, et⟩, en, ee⟩ := e
      have z0 := hcell 0 (by decide)
      have z1 := hcell 1 (by decide)
      have z2 := hcell 2 (by decide)
      have z3 := hcell 3 (by decide)
      simp only [KS, Nat.add_zero] at z0 z1 z2 z3
      simp only [valSd] at CS
      simp only at HTK
      clear hcell he
      obtain ⟨q, cq, hvq, _⟩ := HOW.out.row
      rw [HLK.out] at hvq
      subst hvq
      obtain ⟨w1, hw1⟩ : ∃ w1, wr.alloc (.cells #[.string ef, .string et, .int .i64 en, .int .i64 ee] 40) = w1 := ⟨_, rfl⟩
      have HB1 := Lib.hid (BW.out.trans ((show Below wr.heap.size wr w1 from hw1 ▸ below_alloc _ _).mono BW.out.size))
      have HO1 := Lib.hid (show OwnK KP w1 w.heap.size 38 _ _ from hw1 ▸ HOW.out.alloc _)
      have HW1 := Lib.hid hw1
      clear hw1
      go_wp2_with fail
      rw [HW1.out]
      refine (CS.out w1).mono ?_
      rintro e w2 ⟨rfl, hb2⟩
      have HB2 := Lib.hid (HB1.out.trans (hb2.mono HB1.out.size))
      have HO2 := Lib.hid (HO1.out.below hb2)
      have HON := Lib.hid (RowK.block KP (L := [⟨ef, et⟩]) (alloc_at w2 (.cells #[.string ef, .string et] 38)))
      clear hb2 CS
      go_wp2_with (at_builtin; refine wpList_app_k skt_span rfl _ _ rfl rfl (HO2.out.alloc _) (some ⟨w2.heap.size, 0, none⟩) 1 [⟨ef, et⟩] rfl HON.out (fun h => by cases h) (by have := HLK.out; simp only [List.length_cons, List.length_nil]; omega) (by have := HB2.out.size; simp; omega) ?_; intro v4 w4 hown4 hgrow4 hat4)
      have HO4 := Lib.hid (show OwnK KP w4 w.heap.size 38 v4 ((L.take (k + 1)).map Sd.sp) by rw [HTK.out]; exact hown4)
      have HB4 := Lib.hid ((HB2.out.alloc HB2.out.size _).grown hgrow4 (by have := HB2.out.size; simp; omega) (fun g hg => (HO2.out.ltB g hg).1))
      exact ⟨⟨k + 1, by go_num, hk, HO4, HB4⟩, by simp [RowKit.intOf]; omega⟩
    · have hkz : ¬ (k : Int) < (n : Int) := by omega
      have HTK := Lib.hid (show L.take k = L from List.take_of_length_le (by rw [HN.out]; omega))
      rw [HTK.out] at HOW
      obtain ⟨q, cq, hvq, _⟩ := HOW.out.row
      rw [List.length_map, HN.out] at hvq
      subst hvq
      go_wp2_with fail
      go_ret
      exact HF.out _ _ HOW.out BW.out

/-- a shard of a span. -/
def shOf (n ep : Int) (s : SP) : Sd := ⟨s, n, ep⟩
set_option maxHeartbeats 1000000 in
theorem shOf_any (s : SP) (n ep : Int) (a b : Nat) (w : World) (ha : w.cell? ⟨a, 0, none⟩ = some (.int .i64 n)) (hal : a < w.heap.size) (hb : w.cell? ⟨b, 0, none⟩ = some (.int .i64 ep)) (hbl : b < w.heap.size) :
    Calls Try.prog 32 #[.agg #[.string s.f, .string s.t], .pointer (some ⟨a, 0, none⟩), .pointer (some ⟨b, 0, none⟩)] w fun e w' => e = .returned (valSd (shOf n ep s)) ∧ Below w.heap.size w w' := by
  obtain ⟨f, t⟩ := s
  unfold valSd shOf
  simp only
  have ne1 : a ≠ w.heap.size := by omega
  have ne2 : b ≠ w.heap.size := by omega
  have ne3 : a ≠ w.heap.size + 1 := by omega
  have ne4 : b ≠ w.heap.size + 1 := by omega
  go_enter Try.func32, Try.ntmps32
  go_wp2_with fail
  refine bodyPost_ret (v := .agg #[.string f, .string t, .int .i64 n, .int .i64 ep]) (by simp [results, Try.results32, go_sem]) rfl ?_
  exact ⟨rfl, ((Below.refl _ _).alloc (Nat.le_refl _) _).alloc (by simp) _⟩

set_option maxHeartbeats 4000000 in
set_option maxRecDepth 100000 in
theorem list_sh (X : List SP) (n ep : Int) (a b : Nat) (p : Option Addr) (c : Nat) (w : World) (hp : RowK KP w p X) (hX : X.length ≤ 1000000) (ha : w.cell? ⟨a, 0, none⟩ = some (.int .i64 n)) (hal : a < w.heap.size) (hb : w.cell? ⟨b, 0, none⟩ = some (.int .i64 ep)) (hbl : b < w.heap.size) :
    Calls Try.prog 31 #[.slice p X.length c, .func (.func 32) #[] #[.pointer (some ⟨a, 0, none⟩), .pointer (some ⟨b, 0, none⟩)]] w (RetK KS w 40 (X.map (shOf n ep))) := by
  have eg : ∀ args w, (callFunc 32 args).run Try.prog w = .ok (.enter 32 args) w := fun _ _ => rfl
  have CS := Lib.hid (show ∀ s w1, Below w.heap.size w w1 → Calls Try.prog 32 #[.agg #[.string s.f, .string s.t], .pointer (some ⟨a, 0, none⟩), .pointer (some ⟨b, 0, none⟩)] w1 fun e w' => e = .returned (valSd (shOf n ep s)) ∧ Below w1.heap.size w1 w' from fun s w1 h => shOf_any s n ep a b w1 (by rw [h.cell (p := ⟨a, 0, none⟩) hal]; exact ha) (Nat.lt_of_lt_of_le hal h.size) (by rw [h.cell (p := ⟨b, 0, none⟩) hbl]; exact hb) (Nat.lt_of_lt_of_le hbl h.size))
  clear ha hal hb hbl
  obtain ⟨m, hN⟩ : ∃ m, X.length = m := ⟨_, rfl⟩
  have HN := Lib.hid hN
  rw [hN] at hX ⊢
  obtain ⟨w0, hmk, hown, hgr⟩ := make_k skt_atlas m hX w
  have HO0 := Lib.hid hown
  have HB0 := Lib.hid ((Below.refl w.heap.size w).grown hgr (Nat.le_refl _) (fun g hg => by cases hg))
  have HP := Lib.hid hp
  have HF := Lib.hid (show ∀ v w', OwnK KS w' w.heap.size 40 v (X.map (shOf n ep)) → Below w.heap.size w w' → RetK KS w 40 (X.map (shOf n ep)) (.returned v) w' from fun v w' h1 h2 => ⟨v, rfl, h1, h2⟩)
  clear hN hp hown hgr
  go_enter Try.func31, Try.ntmps31
  go_wp2_with fail
  go_loopw [5, 13] (fun v i wr => ∃ k : Nat, i = .int .i64 k ∧ k ≤ m ∧ Hid (OwnK KS wr w.heap.size 40 v ((X.take k).map (shOf n ep))) ∧ Hid (Below w.heap.size w wr)) (fun _ i _ => m - (RowKit.intOf i).toNat)
  case atStart => exact ⟨0, rfl, Nat.zero_le _, HO0, HB0⟩
  case round =>
    obtain ⟨k, rfl, hkn, HOW, BW⟩ := hrel
    rcases Nat.lt_or_ge k m with hk | hk
    · have hkz : (k : Int) < (m : Int) := by omega
      have hklt : k < X.length := by rw [HN.out]; exact hk
      obtain ⟨e, he⟩ : ∃ e, X.getD k default = e := ⟨_, rfl⟩
      obtain ⟨pb, po, rfl, hpb, hcell⟩ := HP.out.cells BW.out hklt
      rw [he] at hcell
      have HTK := Lib.hid (show (X.take (k + 1)).map (shOf n ep) = (X.take k).map (shOf n ep) ++ [shOf n ep e] by
        rw [List.take_succ_eq_append_getElem hklt, ← he, List.map_append]
        simp [List.getD, hklt])
      have HLK := Lib.hid (show ((X.take k).map (shOf n ep)).length = k by rw [List.length_map, List.length_take]; omega)
      obtain ⟨q, cq, hvq, _⟩ := HOW.out.row
      rw [HLK.out] at hvq
      subst hvq
      obtain ⟨w1, hw1⟩ : ∃ w1, wr.alloc (.cells #[.string e.f, .string e.t] 38) = w1 := ⟨_, rfl⟩
      have HB1 := Lib.hid (BW.out.trans ((show Below wr.heap.size wr w1 from hw1 ▸ below_alloc _ _).mono BW.out.size))
      have HO1 := Lib.hid (show OwnK KS w1 w.heap.size 40 _ _ from hw1 ▸ HOW.out.alloc _)
      have CE := Lib.hid (CS.out e w1 HB1.out)
      obtain ⟨ef, et⟩ := e
      have z0 := hcell 0 (by decide)
      have z1 := hcell 1 (by decide)
      simp only [KP, Nat.add_zero] at z0 z1
      simp only [valSd, shOf] at CE
      simp only at hw1
      clear hcell he
      have HW1 := Lib.hid hw1
      clear hw1
      go_wp2_with fail
      rw [HW1.out]
      refine CE.out.mono ?_
      rintro e w2 ⟨rfl, hb2⟩
      have HB2 := Lib.hid (HB1.out.trans (hb2.mono HB1.out.size))
      have HO2 := Lib.hid (HO1.out.below hb2)
      have HON := Lib.hid (RowK.block KS (L := [⟨⟨ef, et⟩, n, ep⟩]) (alloc_at w2 (.cells #[.string ef, .string et, .int .i64 n, .int .i64 ep] 40)))
      clear hb2 CE
      go_wp2_with (at_builtin; refine wpList_app_k skt_atlas rfl _ _ rfl rfl (HO2.out.alloc _) (some ⟨w2.heap.size, 0, none⟩) 1 [⟨⟨ef, et⟩, n, ep⟩] rfl HON.out (fun h => by cases h) (by have := HLK.out; simp only [List.length_cons, List.length_nil]; omega) (by have := HB2.out.size; simp; omega) ?_; intro v4 w4 hown4 hgrow4 hat4)
      have HO4 := Lib.hid (show OwnK KS w4 w.heap.size 40 v4 ((X.take (k + 1)).map (shOf n ep)) by rw [HTK.out]; exact hown4)
      have HB4 := Lib.hid ((HB2.out.alloc HB2.out.size _).grown hgrow4 (by have := HB2.out.size; simp; omega) (fun g hg => (HO2.out.ltB g hg).1))
      exact ⟨⟨k + 1, by go_num, hk, HO4, HB4⟩, by simp [RowKit.intOf]; omega⟩
    · have hkz : ¬ (k : Int) < (m : Int) := by omega
      have HTK := Lib.hid (show X.take k = X from List.take_of_length_le (by rw [HN.out]; omega))
      rw [HTK.out] at HOW
      obtain ⟨q, cq, hvq, _⟩ := HOW.out.row
      rw [List.length_map, HN.out] at hvq
      subst hvq
      go_wp2_with fail
      go_ret
      exact HF.out _ _ HOW.out BW.out
end Go.Proofs.Ytodcnemnajlbdaa
