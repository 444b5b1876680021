/-
  The statements' awake: six noughts, and a letter.
-/
import Derived.Test.YtcocmmndonlhkaaDoorMgD
import Derived.Test.YtcocmmndonlhkaaDoorWeLit
namespace Go.Proofs.YtcocmmndonlhkaaDoor
open Go.RowKit Go.Gz Go.Sort

def akO (w : World) : Array Obj := #[.cells #[.int .i32 97] 21, .cells #[.int .i64 258, .int .i64 3, .int .i64 4] 26, .cells #[.slice (some ⟨w.heap.size, 0, none⟩) 1 1, .slice (some ⟨w.heap.size + 1, 0, none⟩) 1 1] 29, .cells #[.slice none 0 0, .slice (some ⟨w.heap.size + 1 + 1, 0, none⟩) 1 1, .int .i64 0, .bool false] 33]
def akW (w : World) : World := grow w (akO w)
theorem akW_eq (w : World) : ((((w.alloc (.cells #[.int .i32 97] 21)).alloc (.cells #[.int .i64 258, .int .i64 3, .int .i64 4] 26)).alloc (.cells #[.slice (some ⟨w.heap.size, 0, none⟩) 1 1, .slice (some ⟨w.heap.size + 1, 0, none⟩) 1 1] 29)).alloc (.cells #[.slice none 0 0, .slice (some ⟨w.heap.size + 1 + 1, 0, none⟩) 1 1, .int .i64 0, .bool false] 33)) = akW w := by
  simp only [alloc_eq_grow, grow_grow]
  rfl
theorem akW_at (w : World) (k : Nat) : (akW w).heap[w.heap.size + k]? = (akO w)[k]? := by
  unfold akW grow
  rw [Array.getElem?_append_right (by omega), Nat.add_sub_cancel_left]
def akR (h : Nat) : WR := ⟨some ⟨h, 0, none⟩, [97], 1, some ⟨h + 1, 0, none⟩, [⟨258, 3, 4⟩], 1⟩
def akT (h : Nat) : TB := ⟨none, [], 0, some ⟨h + 1 + 1, 0, none⟩, [akR h], 1, 0, false⟩
theorem akT_may (h : Nat) : mayWB (akT h).ls (akT h).rs (akT h).top = true := by kernel_rfl
theorem akT_key (h : Nat) : keyOf (akT h) [97] = [1, 2, 0, 0, 0, 3, 0, 0, 0, 4, 0, 0] := by kernel_rfl
theorem akT_none (h : Nat) : keyOf (akT h) [] = [0, 0, 0, 0, 0, 0] := by kernel_rfl
theorem akT_at (w : World) : TabIn (akW w) (akT w.heap.size) := by
  refine ⟨Or.inl rfl, wrs_lit _ _ 29 (0, 0) _ (by rw [Nat.add_assoc, akW_at]; rfl) fun x hx => ?_, by simp [akT], by simp [akT], by simp [akT], fun x hx => ?_⟩
  · obtain rfl : x = akR w.heap.size := by simpa [akT] using hx
    exact ⟨⟨row_heap _ _ _ 21 (0, 0) _ (by have := akW_at w 0; rw [Nat.add_zero] at this; rw [this]; rfl), Nat.le_refl 1, fun h => by cases h⟩, ⟨els_lit _ _ 26 (0, 0) _ (by rw [akW_at]; rfl), Nat.le_refl 1, fun h => by cases h⟩⟩
  · obtain rfl : x = akR w.heap.size := by simpa [akT] using hx
    exact ⟨by simp [akR], by simp [akR]⟩
theorem v97 : ∀ r ∈ [(97 : Int)], V r := by
  intro r hr
  rw [List.mem_singleton.1 hr]; unfold V; omega
theorem enc97 : (⟨#[97]⟩ : ByteArray).data.toList = encAll [97] := by
  rw [encAll_cons, enc_one (by omega) (by omega)]; rfl
theorem ak_key {h : Nat} {k : List UInt8} {er : Int} (hm : MakeIs (akT h) ⟨#[97]⟩ k er) : k = [1, 2, 0, 0, 0, 3, 0, 0, 0, 4, 0, 0] ∧ er = 0 := by
  rcases makeIs_ok hm v97 enc97 (by decide) (akT_may h) with ⟨h1, _⟩ | ⟨_, h2, h3⟩
  · rw [akT_key] at h1; simp at h1
  · exact ⟨by rw [h3, akT_key], h2⟩
theorem ak_none {h : Nat} {k : List UInt8} {er : Int} (hm : MakeIs (akT h) ⟨#[]⟩ k er) : k = [0, 0, 0, 0, 0, 0] ∧ er = 0 := by
  rcases makeIs_ok hm (rs := []) (fun r hr => by simp at hr) rfl (by decide) (akT_may h) with ⟨h1, _⟩ | ⟨_, h2, h3⟩
  · rw [akT_none] at h1; simp at h1
  · exact ⟨by rw [h3, akT_none], h2⟩
theorem build_rowK (p q : Option Addr) (n k m l : Nat) (w : World) : (Instr.build 29 #[(0, .slice p n k), (1, .slice q m l)]).run Tryd.prog w = .ok (.agg #[.slice p n k, .slice q m l]) w := by kernel_rfl

set_option maxHeartbeats 4000000 in
set_option maxRecDepth 100000 in
theorem awake_yes (W : World) (hU : Lib.Utf8Tabs 1 2 W) : Calls Tryd.prog 7 #[] W fun e w' => e = .returned (.bool true) ∧ Below W.heap.size W w' := by
  have b1 := fun w : World => build_row (some ⟨W.heap.size, 0, none⟩) (some ⟨W.heap.size + 1, 0, none⟩) 1 1 1 1 w
  have b2 := fun w : World => build_tab1 (some ⟨W.heap.size + 1 + 1, 0, none⟩) 1 1 w
  have b3 := fun w : World => build_el3 258 3 4 w
  go_enter Tryd.func7, Tryd.ntmps7
  go_wp2_with fail
  rw [akW_eq]
  have HT := Lib.hid (akT_at W)
  have hbw := Lib.hid (show Below W.heap.size W (akW W) from grow_below W 0 _)
  have hsw : (akW W).heap.size = W.heap.size + 4 := by unfold akW; rw [size_grow]; rfl
  have HX0 := Lib.hid (show BoxAt (akW W) (W.heap.size + 1 + 1 + 1) (akT W.heap.size) from by
    have e : (akW W).heap[W.heap.size + 1 + 1 + 1]? = (akO W)[3]? := by
      have := akW_at W 3
      rwa [show W.heap.size + 3 = W.heap.size + 1 + 1 + 1 by omega] at this
    refine ⟨by omega, ?_, ?_, ?_, ?_⟩ <;> (unfold World.cell?; rw [e]; rfl))
  have CM := Lib.hid (fun s w (hb : Below (akW W).heap.size (akW W) w) hs => make_any (akT W.heap.size) s w (HT.out.below hb) (by simp [akT]) (by simp [akT]) (Sc.tabs_below hU (hbw.out.trans (hb.mono (by omega)))) hs)
  have CC := Lib.hid (fun a b w (hb : Below (akW W).heap.size (akW W) w) ha hb' => skcompare_any (akT W.heap.size) a b w (HT.out.below hb) (by simp [akT]) (by simp [akT]) (Sc.tabs_below hU (hbw.out.trans (hb.mono (by omega)))) ha hb')
  clear b1 b2 b3 hU
  generalize akW W = w0 at *
  obtain ⟨_, t0, t1, t2, t3⟩ := HX0.out
  refine (CM.out ⟨#[97]⟩ w0 (Below.refl _ _) (by decide)).mono ?_
  rintro e w1 ⟨k1, e1, rfl, hb1, hm1⟩
  obtain ⟨rfl, rfl⟩ := ak_key hm1
  have HX1 := Lib.hid (HX0.out.below hb1)
  have HB1 := Lib.hid hb1
  clear hb1 hm1 t0 t1 t2 t3
  obtain ⟨_, t0, t1, t2, t3⟩ := HX1.out
  go_wp2_with fail
  refine (CM.out ⟨#[]⟩ w1 HB1.out (by decide)).mono ?_
  rintro e w2 ⟨k2, e2, rfl, hb2, hm2⟩
  obtain ⟨rfl, rfl⟩ := ak_none hm2
  have HX2 := Lib.hid (HX1.out.below hb2)
  have HB2 := Lib.hid (HB1.out.trans (hb2.mono HB1.out.size))
  clear hb2 hm2 t0 t1 t2 t3
  obtain ⟨_, t0, t1, t2, t3⟩ := HX2.out
  go_wp2_with fail
  refine (CC.out ⟨#[]⟩ ⟨#[97]⟩ w2 HB2.out (by decide) (by decide)).mono ?_
  rintro e w3 ⟨ka, ea, kb, eb, er, cv, hma, hmb, her, _, hcv, rfl, hb3⟩
  obtain ⟨rfl, rfl⟩ := ak_none hma
  obtain ⟨rfl, rfl⟩ := ak_key hmb
  obtain rfl : er = 0 := by rw [her]; rfl
  obtain rfl : cv = -1 := by rw [hcv rfl]; rfl
  have HB3 := Lib.hid (HB2.out.trans (hb3.mono HB2.out.size))
  clear hb3 hma hmb her hcv t0 t1 t2 t3
  go_wp2_with fail
  go_ret
  exact ⟨rfl, hbw.out.trans (HB3.out.mono (by omega))⟩
end Go.Proofs.YtcocmmndonlhkaaDoor
