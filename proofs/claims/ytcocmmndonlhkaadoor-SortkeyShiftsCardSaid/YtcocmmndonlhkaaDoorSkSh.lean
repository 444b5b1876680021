/-
  SortkeyShifts: the walk.
-/
import Derived.Test.YtcocmmndonlhkaaDoorSkShM
import Derived.Test.YtcocmmndonlhkaaDoorSkLong
import Derived.Deep.Heap
namespace Go.Proofs.YtcocmmndonlhkaaDoor
open Go.RowKit Go.Gz Go.Sort

def shQ (h : Nat) : Array Obj := #[.cells #[.int .i32 32] 21,
  .cells #[.int .i64 5, .int .i64 32, .int .i64 2] 26,
  .cells #[.int .i32 97] 21,
  .cells #[.int .i64 10, .int .i64 32, .int .i64 2] 26,
  .cells #[.int .i32 98] 21,
  .cells #[.int .i64 11, .int .i64 32, .int .i64 2] 26,
  .cells #[.slice (some ⟨h, 0, none⟩) 1 1, .slice (some ⟨h + 1, 0, none⟩) 1 1, .slice (some ⟨h + 1 + 1, 0, none⟩) 1 1, .slice (some ⟨h + 1 + 1 + 1, 0, none⟩) 1 1, .slice (some ⟨h + 1 + 1 + 1 + 1, 0, none⟩) 1 1, .slice (some ⟨h + 1 + 1 + 1 + 1 + 1, 0, none⟩) 1 1] 29,
  .cells #[.slice none 0 0, .slice (some ⟨h + 1 + 1 + 1 + 1 + 1 + 1, 0, none⟩) 3 3, .int .i64 9, .bool false] 33]
def shW (w : World) : World := grow w (shQ w.heap.size)
/-- the table's rows in memory. -/
def ShIn (w : World) (h : Nat) : Prop := ∀ k, k < 7 → w.heap[h + k]? = (shQ h)[k]?
theorem shW_at (w : World) (k h : Nat) (e : w.heap.size + k = h) : (shW w).heap[h]? = (shQ w.heap.size)[k]? := grow_at w (shQ w.heap.size) k h e
theorem shIn_new (w : World) : ShIn (shW w) w.heap.size := fun k _ => shW_at w k _ rfl
theorem ShIn.lt {w : World} {h k : Nat} (H : ShIn w h) (hk : k < 7) : h + k < w.heap.size := by
  have e := H k hk
  rw [Array.getElem?_eq_getElem (show k < (shQ h).size from Nat.lt_of_lt_of_le hk (by show 7 ≤ 8; omega))] at e
  exact (Array.getElem?_eq_some_iff.1 e).1
theorem ShIn.below {w w' : World} {h : Nat} (H : ShIn w h) (hb : Below w.heap.size w w') : ShIn w' h := fun k hk => (hb.block _ (H.lt hk)).trans (H k hk)
theorem ShIn.set {w : World} {h x i : Nat} {v : Value} (H : ShIn w h) (hx : h + 7 = x) : ShIn (w.setCell ⟨x, i, none⟩ v) h := fun k hk => (Go.Deep.blk_setCell_other w ⟨x, i, none⟩ v (h + k) (by show h + k ≠ x; omega)).trans (H k hk)
theorem ShIn.tab {w : World} {h : Nat} (H : ShIn w h) (sh : Bool) : TabIn w (shT h sh) := by
  have at_ : ∀ k g, k < 7 → h + k = g → w.heap[g]? = (shQ h)[k]? := fun k g hk e => e ▸ H k hk
  refine ⟨Or.inl rfl, wrs_lit _ _ 29 (0, 0) _ (by rw [at_ 6 _ (by omega) (by omega)]; rfl) fun x hx => ?_, by simp [shT], by simp [shT], by simp [shT, shR], fun x hx => ?_⟩
  · simp only [shT, shR, List.mem_cons, List.not_mem_nil, or_false] at hx
    rcases hx with rfl | rfl | rfl
    · exact ⟨⟨row_heap _ _ _ 21 (0, 0) _ (by rw [at_ 0 _ (by omega) (by omega)]; rfl), Nat.le_refl 1, fun h => by cases h⟩, ⟨els_lit _ _ 26 (0, 0) _ (by rw [at_ 1 _ (by omega) (by omega)]; rfl), Nat.le_refl 1, fun h => by cases h⟩⟩
    · exact ⟨⟨row_heap _ _ _ 21 (0, 0) _ (by rw [at_ 2 _ (by omega) (by omega)]; rfl), Nat.le_refl 1, fun h => by cases h⟩, ⟨els_lit _ _ 26 (0, 0) _ (by rw [at_ 3 _ (by omega) (by omega)]; rfl), Nat.le_refl 1, fun h => by cases h⟩⟩
    · exact ⟨⟨row_heap _ _ _ 21 (0, 0) _ (by rw [at_ 4 _ (by omega) (by omega)]; rfl), Nat.le_refl 1, fun h => by cases h⟩, ⟨els_lit _ _ 26 (0, 0) _ (by rw [at_ 5 _ (by omega) (by omega)]; rfl), Nat.le_refl 1, fun h => by cases h⟩⟩
  · simp only [shT, shR, List.mem_cons, List.not_mem_nil, or_false] at hx
    rcases hx with rfl | rfl | rfl <;> exact ⟨by simp, by simp⟩
theorem shB_at (w : World) : BoxAt (shW w) (w.heap.size + 1 + 1 + 1 + 1 + 1 + 1 + 1) (shT w.heap.size false) := by
  have e := shW_at w 7 (w.heap.size + 1 + 1 + 1 + 1 + 1 + 1 + 1) (by omega)
  refine ⟨by unfold shW; rw [size_grow]; show _ < _ + 8; omega, ?_, ?_, ?_, ?_⟩ <;> (unfold World.cell?; rw [e]; rfl)
theorem shF_at (w : World) : (shW w).frozen? ⟨w.heap.size + 1 + 1 + 1 + 1 + 1 + 1 + 1, 3, none⟩ = false := by
  have e := shW_at w 7 (w.heap.size + 1 + 1 + 1 + 1 + 1 + 1 + 1) (by omega)
  unfold World.frozen?
  rw [e]; rfl
/-- the switch turned on. -/
theorem sh_on {w : World} {x h : Nat} (H : BoxAt w x (shT h false)) : BoxAt (w.setCell ⟨x, 3, none⟩ (.bool true)) x (shT h true) := by
  obtain ⟨h0, h1, h2, h3, h4⟩ := H
  have o : ∀ j v, j ≠ 3 → w.cell? ⟨x, j, none⟩ = some v → (w.setCell ⟨x, 3, none⟩ (.bool true)).cell? ⟨x, j, none⟩ = some v := fun j v hj hv => (World.cell?_setCell_other w ⟨x, 3, none⟩ ⟨x, j, none⟩ _ (fun e => by injection e with _ e2 _; omega)).trans hv
  exact ⟨by rw [Go.Deep.nblk_setCell]; exact h0, o 0 _ (by omega) h1, o 1 _ (by omega) h2, o 2 _ (by omega) h3, World.cell?_setCell_same w _ _ h4⟩
theorem build_tabS (q : Option Addr) (m l : Nat) (t : Int) (w : World) : (Instr.build 33 #[(2, .int .i64 t), (1, .slice q m l)]).run Tryd.prog w = .ok (.agg #[.slice none 0 0, .slice q m l, .int .i64 t, .bool false]) w := by kernel_rfl
/-- the letter of a word's number. -/
def ltB (x : Int) : UInt8 := if x % 2 = 0 then 97 else 98
theorem conv_one (b : UInt8) (w : World) : (convert 22 9 (.slice (some ⟨w.heap.size, 0, none⟩) 1 1)).run Tryd.prog (w.alloc (.cells #[.int .u8 (b.toNat : Int)] 5)) = .ok (.string ⟨#[b]⟩) (w.alloc (.cells #[.int .u8 (b.toNat : Int)] 5)) := by
  refine Sc.run_string (w.alloc _) [b] (some ⟨w.heap.size, 0, none⟩) 1 (row_heap _ _ _ 5 (0, 0) _ ?_)
  show (w.heap.push _)[w.heap.size]? = _
  rw [Array.getElem?_push_size]
  rfl

def ltZ (x : Int) : Int := if x % 2 = 0 then 97 else 98
theorem enc_low : ∀ s : List Int, (∀ r ∈ s, 0 ≤ r ∧ r < 128) → encAll s = s.map fun r => r.toNat.toUInt8
  | [], _ => rfl
  | r :: t, h => by
    rw [encAll_cons, enc_low t fun x hx => h x (List.mem_cons_of_mem _ hx), enc_one (h r (List.mem_cons_self ..)).1 (by have := (h r (List.mem_cons_self ..)).2; omega)]; rfl
theorem ltZ_is (x : Int) : ltZ x = 97 ∨ ltZ x = 98 := by unfold ltZ; split <;> simp
theorem ltZ_all {ws : List Int} {x : Int} (h : x ∈ ws.map ltZ) : x = 97 ∨ x = 98 := by
  obtain ⟨y, _, rfl⟩ := List.mem_map.1 h
  exact ltZ_is y
theorem sh_txt (ws : List Int) (k : Nat) : encAll ((ws.map ltZ).take k ++ (ws.map ltZ).drop k) = ws.map ltB ∧ encAll ((ws.map ltZ).take k ++ 32 :: (ws.map ltZ).drop k) = (ws.map ltB).take k ++ 32 :: (ws.map ltB).drop k ∧
    (∀ x ∈ (ws.map ltZ).take k, x = 97 ∨ x = 98) ∧ (∀ x ∈ (ws.map ltZ).drop k, x = 97 ∨ x = 98) := by
  have e : ∀ x : Int, (ltZ x).toNat.toUInt8 = ltB x := fun x => by unfold ltZ ltB; split <;> rfl
  have h1 : ∀ x ∈ (ws.map ltZ).take k, x = 97 ∨ x = 98 := fun x hx => ltZ_all (List.mem_of_mem_take hx)
  have h2 : ∀ x ∈ (ws.map ltZ).drop k, x = 97 ∨ x = 98 := fun x hx => ltZ_all (List.mem_of_mem_drop hx)
  refine ⟨?_, ?_, h1, h2⟩
  · rw [List.take_append_drop, enc_low _ fun x hx => by rcases ltZ_all hx with rfl | rfl <;> omega, List.map_map]
    exact List.map_congr_left fun x _ => e x
  · rw [enc_low _ fun x hx => by
      rcases List.mem_append.1 hx with hx | hx
      · rcases h1 x hx with rfl | rfl <;> omega
      · rcases List.mem_cons.1 hx with rfl | hx
        · omega
        · rcases h2 x hx with rfl | rfl <;> omega]
    rw [List.map_append, List.map_cons, ← List.map_take, ← List.map_drop, ← List.map_take, ← List.map_drop, List.map_map, List.map_map]
    congr 1
    · exact List.map_congr_left fun x _ => e x
    · congr 1
      exact List.map_congr_left fun x _ => e x
theorem sh_v {s : List Int} (hs : ∀ x ∈ s, x = 32 ∨ x = 97 ∨ x = 98) : ∀ r ∈ s, V r := fun r hr => by
  rcases hs r hr with rfl | rfl | rfl <;> (unfold V; omega)
/-- what the four keys are. -/
theorem sh_four (h : Nat) (ws : List Int) (k j : Nat) (hj : ws.length = j) (hkj : k ≤ j) (h15 : j ≤ 15) (st sw : ByteArray) (hs : st.data.toList = ws.map ltB) (hsw : sw.data.toList = (ws.map ltB).take k ++ 32 :: (ws.map ltB).drop k) :
    ∃ P b d e : List UInt8, P.length = 6 * j + 6 ∧ b.length = 6 * j + 12 ∧ d.length = 2 * j ∧ e.length = 2 * j + 2 ∧
      (∀ q er, MakeIs (shT h false) st q er → q = P ∧ er = 0) ∧ (∀ q er, MakeIs (shT h false) sw q er → q = b ∧ er = 0) ∧ (∀ q er, MakeIs (shT h true) st q er → q = P ++ d ∧ er = 0) ∧ (∀ q er, MakeIs (shT h true) sw q er → q = P ++ e ∧ er = 0) := by
  obtain ⟨t1, t2, t3, t4⟩ := sh_txt ws k
  obtain ⟨P, b, d, e, k1, k2, k3, k4, l1, l2, l3, l4⟩ := sh_keys h _ _ t3 t4
  have hlen : ((ws.map ltZ).take k).length + ((ws.map ltZ).drop k).length = j := by simp; omega
  rw [hlen] at l1 l2 l3 l4
  have v1 : ∀ r ∈ (ws.map ltZ).take k ++ (ws.map ltZ).drop k, V r := sh_v fun x hx => by
    rcases List.mem_append.1 hx with hx | hx
    · exact Or.inr (t3 x hx)
    · exact Or.inr (t4 x hx)
  have v2 : ∀ r ∈ (ws.map ltZ).take k ++ 32 :: (ws.map ltZ).drop k, V r := sh_v fun x hx => by
    rcases List.mem_append.1 hx with hx | hx
    · exact Or.inr (t3 x hx)
    · rcases List.mem_cons.1 hx with hx | hx
      · exact Or.inl hx
      · exact Or.inr (t4 x hx)
  have z1 : st.size ≤ 64 := by
    show st.data.size ≤ 64
    rw [← Array.length_toList, hs, List.length_map]; omega
  have z2 : sw.size ≤ 64 := by
    show sw.data.size ≤ 64
    rw [← Array.length_toList, hsw]; simp; omega
  refine ⟨P, b, d, e, l1, l2, l3, l4, fun q er hm => ?_, fun q er hm => ?_, fun q er hm => ?_, fun q er hm => ?_⟩
  · rcases makeIs_ok hm v1 (hs.trans t1.symm) z1 (sh_may h false) with ⟨a, _⟩ | ⟨_, a, c⟩
    · rw [k1] at a; omega
    · exact ⟨c.trans k1, a⟩
  · rcases makeIs_ok hm v2 (hsw.trans t2.symm) z2 (sh_may h false) with ⟨a, _⟩ | ⟨_, a, c⟩
    · rw [k2] at a; omega
    · exact ⟨c.trans k2, a⟩
  · rcases makeIs_ok hm v1 (hs.trans t1.symm) z1 (sh_may h true) with ⟨a, _⟩ | ⟨_, a, c⟩
    · rw [k3, List.length_append] at a; omega
    · exact ⟨c.trans k3, a⟩
  · rcases makeIs_ok hm v2 (hsw.trans t2.symm) z2 (sh_may h true) with ⟨a, _⟩ | ⟨_, a, c⟩
    · rw [k4, List.length_append] at a; omega
    · exact ⟨c.trans k4, a⟩

set_option maxHeartbeats 4000000 in
set_option maxRecDepth 100000 in
theorem shifts_walk (p : Option Addr) (ws : List Int) (c : Nat) (at_ : Int) (W : World) (hU : Lib.Utf8Tabs 1 2 W) (hr : Row W .u8 p ws) (hwl : ws.length ≤ 9223372036854775807) (hw : ∀ x ∈ ws, 0 ≤ x ∧ x ≤ 255) (hat : 0 ≤ at_ ∧ at_ ≤ 255) :
    Calls Tryd.prog 3 #[.slice p ws.length c, .int .u8 at_] W fun e w' => e = .returned (.bool true) ∧ Below W.heap.size W w' := by
  have C0 := Lib.hid (awake_yes W hU)
  obtain ⟨hat0, hat1⟩ := hat
  have b3 := fun (a b c : Int) (w : World) => build_el3 a b c w
  have br := build_row
  have bt := build_tabS
  have HU := Lib.hid hU; clear hU
  have HR := Lib.hid hr; clear hr
  have HW := Lib.hid hw; clear hw
  go_enter Tryd.func3, Tryd.ntmps3
  go_wp2_with fail
  refine C0.out.mono ?_
  rintro e w1 ⟨rfl, hb1⟩
  have HB1 := Lib.hid hb1
  clear hb1 C0
  obtain ⟨n, hn⟩ : ∃ n, ws.length = n := ⟨_, rfl⟩
  rw [hn] at hwl ⊢
  have HN := Lib.hid hn
  clear hn
  by_cases h0 : n = 0
  · subst h0
    go_wp2_with fail
    go_ret
    exact ⟨rfl, HB1.out⟩
  · have h0b : (((n : Nat) : Int) == 0) = false := by simp; omega
    by_cases h15 : 15 < n
    · have h15z : (15 : Int) < (n : Int) := by omega
      clear h0
      go_wp2_with fail
      go_ret
      exact ⟨rfl, HB1.out⟩
    · have h15z : decide ((15 : Int) < (n : Int)) = false := decide_eq_false (by omega)
      have H0 := Lib.hid h0
      clear h0
      go_upto_region 6 with fail
      simp only [alloc_eq_grow, grow_grow]
      generalize hw2 : grow w1 _ = w2
      have hk : shW w1 = w2 := by rw [← hw2]; rfl
      have HT := Lib.hid (show ShIn w2 w1.heap.size from hk ▸ shIn_new w1)
      have HXW := Lib.hid (show W.heap.size ≤ w1.heap.size + 1 + 1 + 1 + 1 + 1 + 1 + 1 by have := HB1.out.size; omega)
      have HX := Lib.hid (show BoxAt w2 (w1.heap.size + 1 + 1 + 1 + 1 + 1 + 1 + 1) (shT w1.heap.size false) from hk ▸ shB_at w1)
      have HF := Lib.hid (show w2.frozen? ⟨w1.heap.size + 1 + 1 + 1 + 1 + 1 + 1 + 1, 3, none⟩ = false from hk ▸ shF_at w1)
      have HB2 := Lib.hid (HB1.out.trans ((show Below w1.heap.size w1 w2 from hk ▸ grow_below w1 0 _).mono HB1.out.size))
      have HU2 := Lib.hid (Sc.tabs_below HU.out HB2.out)
      have HR2 := Lib.hid (HR.out.below HB2.out)
      clear hw2 hk HR HB1 b3 br bt
      generalize hxe : w1.heap.size + 1 + 1 + 1 + 1 + 1 + 1 + 1 = x at HX HXW HF ⊢
      have HXH := Lib.hid (show w1.heap.size + 7 = x by omega)
      clear hxe
      generalize w1.heap.size = h at HX HT HXH ⊢
      go_wp2_with fail
      go_loopg [6, 7] n (fun gg vs vi wr => ∃ (j : Nat) (st : ByteArray), j ≤ n ∧ n - j ≤ gg ∧ vs = .string st ∧ vi = .int .i64 j ∧ st.size = j ∧ Hid (st.data.toList = (ws.take j).map ltB) ∧ Hid (Below w2.heap.size w2 wr))
      case atStart => exact ⟨0, ⟨#[]⟩, by omega, by omega, rfl, rfl, rfl, Lib.hid rfl, Lib.hid (Below.refl _ _)⟩
      case round =>
        obtain ⟨j, st, hjm, hjg, rfl, rfl, hsj, HST, HBr⟩ := hrel
        by_cases hj : j < n
        · have hjz : (j : Int) < (n : Int) := by omega
          obtain ⟨b, o, rfl, hbl, cx⟩ := row_cell HR2.out HBr.out (j := j) (by have := HN.out; omega)
          have hx := HW.out (ws.getD j 0) (by
            have hjl : j < ws.length := by have := HN.out; omega
            rw [List.getD, List.getElem?_eq_getElem hjl]; exact List.getElem_mem hjl)
          have hbl' : b < wr.heap.size := Nat.lt_of_lt_of_le hbl HBr.out.size
          have hlt : (ws.take (j + 1)).map ltB = (ws.take j).map ltB ++ [ltB (ws.getD j 0)] := by
            have hjl : j < ws.length := by have := HN.out; omega
            rw [List.take_add_one, List.getElem?_eq_getElem hjl, List.map_append]
            simp [List.getD, List.getElem?_eq_getElem hjl]
          have HLT := Lib.hid hlt
          clear hlt
          generalize ws.getD j 0 = x1 at cx hx HLT
          obtain ⟨hx0, hx1⟩ := hx
          obtain ⟨q, hq, hq2⟩ : ∃ q, x1 % 2 = q ∧ (q = 0 ∨ q = 1) := ⟨_, rfl, by omega⟩
          have HLQ := Lib.hid (show ltB x1 = if q = 0 then 97 else 98 by unfold ltB; rw [hq])
          have hcv : ∀ w : World, (convert 22 9 (.slice (some ⟨w.heap.size, 0, none⟩) 1 1)).run Tryd.prog (w.alloc (.cells #[.int .u8 97] 5)) = .ok (.string ⟨#[97]⟩) (w.alloc (.cells #[.int .u8 97] 5)) := fun w => conv_one 97 w
          have hcw : ∀ w : World, (convert 22 9 (.slice (some ⟨w.heap.size, 0, none⟩) 1 1)).run Tryd.prog (w.alloc (.cells #[.int .u8 98] 5)) = .ok (.string ⟨#[98]⟩) (w.alloc (.cells #[.int .u8 98] 5)) := fun w => conv_one 98 w
          have ha := fun (z : UInt8) (w : World) => run_string_add_sum (P := Tryd.prog) (w := w) st ⟨#[z]⟩ (by show st.size + 1 ≤ _; omega)
          rcases hq2 with rfl | rfl
          · have HS2 := Lib.hid (show (st ++ (⟨#[97]⟩ : ByteArray)).size = j + 1 ∧ (st ++ (⟨#[97]⟩ : ByteArray)).data.toList = (ws.take (j + 1)).map ltB from ⟨by rw [ByteArray.size_append, hsj]; rfl, by
              rw [HLT.out, ByteArray.data_append, Array.toList_append, HST.out, HLQ.out]; rfl⟩)
            have ha := ha 97
            have HB2r := fun oo => Lib.hid (HBr.out.alloc HBr.out.size oo)
            clear hcw
            go_wp2_with fail
            go_roundg (n - (j + 1))
            case measure => omega
            case rel => exact ⟨j + 1, _, by omega, by omega, rfl, by go_num, HS2.out.1, Lib.hid HS2.out.2, HB2r _⟩
          · have HS2 := Lib.hid (show (st ++ (⟨#[98]⟩ : ByteArray)).size = j + 1 ∧ (st ++ (⟨#[98]⟩ : ByteArray)).data.toList = (ws.take (j + 1)).map ltB from ⟨by rw [ByteArray.size_append, hsj]; rfl, by
              rw [HLT.out, ByteArray.data_append, Array.toList_append, HST.out, HLQ.out]; rfl⟩)
            have ha := ha 98
            have HB2r := fun oo => Lib.hid (HBr.out.alloc HBr.out.size oo)
            clear hcv
            go_wp2_with fail
            go_roundg (n - (j + 1))
            case measure => omega
            case rel => exact ⟨j + 1, _, by omega, by omega, rfl, by go_num, HS2.out.1, Lib.hid HS2.out.2, HB2r _⟩
        · obtain rfl : j = n := by omega
          have HS := Lib.hid (show st.data.toList = ws.map ltB by rw [HST.out, List.take_of_length_le (by rw [HN.out]; omega)])
          clear HST hjg hjm
          obtain ⟨k, hk⟩ : ∃ k : Nat, at_ % ((j : Int) + 1) = (k : Int) := ⟨(at_ % ((j : Int) + 1)).toNat, by have := Int.emod_nonneg at_ (show (j : Int) + 1 ≠ 0 by omega); omega⟩
          have hkj : k ≤ j := by have := Int.emod_lt_of_pos at_ (show 0 < (j : Int) + 1 by omega); omega
          have hkz : (0 : Int) ≤ (k : Int) := by omega
          have hkj2 : (k : Int) ≤ (j : Int) := by omega
          have hkj3 : (k : Int) ≤ (st.size : Int) := by omega
          have mx : Tryd.prog.follows .mixedOrders = true := by kernel_rfl
          go_upto_region 12 with fail
          go_cut [9] from 65 to 73 (fun v wx => ∃ sw : ByteArray, v = .string sw ∧ sw.size = j + 1 ∧ Hid (sw.data.toList = (ws.map ltB).take k ++ 32 :: (ws.map ltB).drop k) ∧ Hid (Below w2.heap.size w2 wx))
          case first =>
            have had := fun (a b : ByteArray) (w : World) (h : a.size + b.size ≤ 9223372036854775807) => run_string_add_sum (P := Tryd.prog) (w := w) a b h
            go_quiet (fail)
            go_wp2_with fail
            go_meet
            refine ⟨_, rfl, ?_, ?_, ?_⟩
            · have he : (⟨#[32]⟩ : ByteArray).size = 1 := rfl
              rw [ByteArray.size_append, ByteArray.size_append, ByteArray.size_extract, ByteArray.size_extract, hsj, he]; omega
            · have hlw : (ws.map ltB).length = j := by rw [List.length_map]; exact HN.out
              refine Lib.hid ?_
              simp only [ByteArray.data_append, ByteArray.data_extract, Array.toList_append, Array.toList_extract, HS.out, List.extract_eq_take_drop, List.drop_zero, Nat.sub_zero]
              rw [List.take_of_length_le (l := (ws.map ltB).drop k) (by rw [List.length_drop, hlw]; omega)]
              simp
            · first | exact Lib.hid (below_drewN HBr.out _) | exact Lib.hid HBr.out.drew
          case rest =>
            obtain ⟨sw, rfl, hsw, HSW, HBx⟩ := hcut
            obtain ⟨P, b1, d1, e1, l1, l2, l3, l4, m1, m2, m3, m4⟩ := sh_four h ws k j HN.out hkj (by omega) st sw HS.out HSW.out
            have M1 := Lib.hid m1
            have M2 := Lib.hid m2
            have M3 := Lib.hid m3
            have M4 := Lib.hid m4
            have L1 := Lib.hid l1
            have L2 := Lib.hid l2
            have L3 := Lib.hid l3
            have L4 := Lib.hid l4
            clear m1 m2 m3 m4 l1 l2 l3 l4 hk hkz hkj2 hkj3
            have CM := Lib.hid (fun s w (hb : Below w2.heap.size w2 w) hs => make_any (shT h false) s w ((HT.out.below hb).tab false) (by simp [shT]) (by simp [shT, shR]) (Sc.tabs_below HU2.out hb) hs)
            obtain ⟨_, t0, t1, t2, t3⟩ := HX.out.below HBx.out
            go_wp2_with fail
            refine (CM.out st _ HBx.out (by omega)).mono ?_
            rintro e w3 ⟨q3, er3, rfl, hb3, hm3⟩
            obtain ⟨rfl, rfl⟩ := M1.out _ _ hm3
            have HB3 := Lib.hid (HBx.out.trans (hb3.mono HBx.out.size))
            clear hb3 hm3 t0 t1 t2 t3 HBx
            obtain ⟨_, t0, t1, t2, t3⟩ := HX.out.below HB3.out
            go_wp2_with fail
            refine (CM.out sw w3 HB3.out (by omega)).mono ?_
            rintro e w4 ⟨q4, er4, rfl, hb4, hm4⟩
            obtain ⟨rfl, rfl⟩ := M2.out _ _ hm4
            have HB4 := Lib.hid (HB3.out.trans (hb4.mono HB3.out.size))
            clear hb4 hm4 t0 t1 t2 t3 HB3 CM
            have HX4 := Lib.hid (HX.out.below HB4.out)
            obtain ⟨_, t0, t1, t2, t3⟩ := HX4.out
            have hfz := (HB4.out.frozen (p := ⟨x, 3, none⟩) HX.out.1).trans HF.out
            go_upto_region 16 with (fail)
            generalize hw5 : World.setCell w4 _ _ = w5
            have HX5 := Lib.hid (show BoxAt w5 x (shT h true) from hw5 ▸ sh_on HX4.out)
            have HT5 := Lib.hid (show ShIn w5 h from hw5 ▸ (HT.out.below HB4.out).set HXH.out)
            have HW5 := Lib.hid (show Below W.heap.size W w5 from hw5 ▸ (HB2.out.trans (HB4.out.mono HB2.out.size)).setCell (p := ⟨x, 3, none⟩) HXW.out _)
            have HU5 := Lib.hid (Sc.tabs_below HU.out HW5.out)
            have CM := Lib.hid (fun s w (hb : Below w5.heap.size w5 w) hs => make_any (shT h true) s w ((HT5.out.below hb).tab true) (by simp [shT]) (by simp [shT, shR]) (Sc.tabs_below HU5.out hb) hs)
            clear hw5 hfz t0 t1 t2 t3 HX4 HB4 HX HT HT5
            obtain ⟨_, t0, t1, t2, t3⟩ := HX5.out
            go_wp2_with fail
            refine (CM.out st w5 (Below.refl _ _) (by omega)).mono ?_
            rintro e w6 ⟨q6, er6, rfl, hb6, hm6⟩
            obtain ⟨rfl, rfl⟩ := M3.out _ _ hm6
            have HB6 := Lib.hid hb6
            clear hb6 hm6 t0 t1 t2 t3
            obtain ⟨_, t0, t1, t2, t3⟩ := HX5.out.below HB6.out
            go_wp2_with fail
            refine (CM.out sw w6 HB6.out (by omega)).mono ?_
            rintro e w7 ⟨q7, er7, rfl, hb7, hm7⟩
            obtain ⟨rfl, rfl⟩ := M4.out _ _ hm7
            have HW7 := Lib.hid (HW5.out.trans ((HB6.out.trans (hb7.mono HB6.out.size)).mono HW5.out.size))
            clear hb7 hm7 t0 t1 t2 t3 CM HX5 HB6 HU5 M1 M2 M3 M4
            have hj15 : (j : Int) ≤ 15 := by omega
            generalize hA : (⟨q3.toArray⟩ : ByteArray) = A
            generalize hB : (⟨q4.toArray⟩ : ByteArray) = B
            generalize hX : (⟨(q3 ++ d1).toArray⟩ : ByteArray) = X
            generalize hY : (⟨(q3 ++ e1).toArray⟩ : ByteArray) = Y
            have zA : A.size = 6 * j + 6 := by rw [← hA]; show q3.toArray.size = _; rw [List.size_toArray]; exact L1.out
            have zB : B.size = 6 * j + 12 := by rw [← hB]; show q4.toArray.size = _; rw [List.size_toArray]; exact L2.out
            have zX : X.size = 6 * j + 6 + 2 * j := by rw [← hX]; show (q3 ++ d1).toArray.size = _; rw [List.size_toArray, List.length_append, L1.out, L3.out]
            have zY : Y.size = 6 * j + 6 + 2 * j + 2 := by rw [← hY]; show (q3 ++ e1).toArray.size = _; rw [List.size_toArray, List.length_append, L1.out, L4.out]; omega
            have tl : ∀ {U Z : ByteArray}, U.size ≠ Z.size → (U.toList == Z.toList) = false := fun {U Z} h => by
              have h2 : ¬ U.toList = Z.toList := fun e => h (by
                have := congrArg List.length e
                rw [Lib.toList_data, Lib.toList_data] at this
                simpa using this)
              simpa using h2
            have x1 : X.extract 0 (6 * (j : Int) + 6).toNat = A := by
              rw [show (6 * (j : Int) + 6).toNat = 6 * j + 6 by omega]
              refine ByteArray.ext (Array.toList_inj.1 ?_)
              rw [ByteArray.data_extract, Array.toList_extract, ← hX, ← hA]
              simp [List.extract_eq_take_drop, L1.out]
            have x2 : Y.extract 0 (6 * (j : Int) + 6).toNat = A := by
              rw [show (6 * (j : Int) + 6).toNat = 6 * j + 6 by omega]
              refine ByteArray.ext (Array.toList_inj.1 ?_)
              rw [ByteArray.data_extract, Array.toList_extract, ← hY, ← hA]
              simp [List.extract_eq_take_drop, L1.out]
            have n1 : (X.toList == Y.toList) = false := tl (by omega)
            have n2 : (B.toList == A.toList) = false := tl (by omega)
            have f1 : (((A.size : Nat) : Int) != 6 * (j : Int) + 6) = false := by simp; omega
            have f2 : (((X.size : Nat) : Int) != 6 * (j : Int) + 6 + 2 * (j : Int)) = false := by simp; omega
            have f3 : (((Y.size : Nat) : Int) != ((X.size : Nat) : Int) + 2) = false := by simp; omega
            have f4 : (((B.size : Nat) : Int) == 6 * (j : Int) + 6 + 6) = true := by simp; omega
            have g1 : (0 : Int) ≤ 6 * (j : Int) + 6 := by omega
            have g2 : 6 * (j : Int) + 6 ≤ ((X.size : Nat) : Int) := by omega
            have g3 : 6 * (j : Int) + 6 ≤ ((Y.size : Nat) : Int) := by omega
            have g4 : ((X.size : Nat) : Int) ≤ 200 := by omega
            clear hA hB hX hY zA zB zX zY tl L1 L2 L3 L4
            go_wp2_with fail
            go_quiet (fail)
            go_wp2_with fail
            go_ret
            exact ⟨rfl, below_drewN HW7.out _⟩
end Go.Proofs.YtcocmmndonlhkaaDoor
