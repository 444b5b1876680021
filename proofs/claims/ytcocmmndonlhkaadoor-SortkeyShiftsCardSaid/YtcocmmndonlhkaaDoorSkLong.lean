/-
  SortkeyLong: the walk.
-/
import Derived.Test.YtcocmmndonlhkaaDoorSkLongM
namespace Go.Proofs.YtcocmmndonlhkaaDoor
open Go.RowKit Go.Gz Go.Sort

def lgO (w : World) : Array Obj := #[.cells #[.int .i32 97] 21, .cells #[.int .i64 10, .int .i64 32, .int .i64 2] 26, .cells #[.slice (some ⟨w.heap.size, 0, none⟩) 1 1, .slice (some ⟨w.heap.size + 1, 0, none⟩) 1 1] 29, .cells #[.slice none 0 0, .slice (some ⟨w.heap.size + 1 + 1, 0, none⟩) 1 1, .int .i64 0, .bool false] 33]
def lgW (w : World) : World := grow w (lgO w)
theorem lgW_eq (w : World) : ((((w.alloc (.cells #[.int .i32 97] 21)).alloc (.cells #[.int .i64 10, .int .i64 32, .int .i64 2] 26)).alloc (.cells #[.slice (some ⟨w.heap.size, 0, none⟩) 1 1, .slice (some ⟨w.heap.size + 1, 0, none⟩) 1 1] 29)).alloc (.cells #[.slice none 0 0, .slice (some ⟨w.heap.size + 1 + 1, 0, none⟩) 1 1, .int .i64 0, .bool false] 33)) = lgW w := by
  simp only [alloc_eq_grow, grow_grow]
  rfl
theorem lgW_at (w : World) (k : Nat) : (lgW w).heap[w.heap.size + k]? = (lgO w)[k]? := by
  unfold lgW grow
  rw [Array.getElem?_append_right (by omega), Nat.add_sub_cancel_left]
theorem grow_at (w : World) (os : Array Obj) (k h : Nat) (e : w.heap.size + k = h) : (grow w os).heap[h]? = os[k]? := by
  subst e
  unfold grow
  rw [Array.getElem?_append_right (by omega), Nat.add_sub_cancel_left]
/-- a world that holds the table. -/
theorem lg_in {w : World} {h q : Nat} {es : List EL} (h0 : w.heap[h]? = some (.cells #[.int .i32 97] 21 (0, 0))) (h1 : w.heap[h + 1 + 1]? = some (.cells #[.slice (some ⟨h, 0, none⟩) 1 1, .slice (some ⟨q, 0, none⟩) es.length es.length] 29 (0, 0))) (h2 : Els w (some ⟨q, 0, none⟩) es) (hl : es.length ≤ 100) : TabIn w (lgT h q es) := by
  refine ⟨Or.inl rfl, wrs_lit _ _ 29 (0, 0) _ (by rw [h1]; rfl) fun x hx => ?_, by simp [lgT], by simp [lgT], by simp [lgT], fun x hx => ?_⟩
  · obtain rfl : x = ⟨some ⟨h, 0, none⟩, [97], 1, some ⟨q, 0, none⟩, es, es.length⟩ := by simpa [lgT] using hx
    exact ⟨⟨row_heap _ _ _ 21 (0, 0) _ (by rw [h0]; rfl), Nat.le_refl 1, fun h => by cases h⟩, ⟨h2, Nat.le_refl _, fun h => by cases h⟩⟩
  · obtain rfl : x = ⟨some ⟨h, 0, none⟩, [97], 1, some ⟨q, 0, none⟩, es, es.length⟩ := by simpa [lgT] using hx
    exact ⟨by simp, by simp; omega⟩

set_option maxHeartbeats 4000000 in
set_option maxRecDepth 100000 in
theorem long_walk (n : Int) (wide : Bool) (W : World) (hU : Lib.Utf8Tabs 1 2 W) (hn : 0 ≤ n ∧ n ≤ 255) : Calls Tryd.prog 4 #[.int .u8 n, .bool wide] W fun e w' => e = .returned (.bool true) ∧ Below W.heap.size W w' := by
  have C0 := Lib.hid (awake_yes W hU)
  obtain ⟨hn0, hn1⟩ := hn
  have b3 := fun w : World => build_el3 10 32 2 w
  have HU := Lib.hid hU; clear hU
  go_enter Tryd.func4, Tryd.ntmps4
  go_wp2_with fail
  refine C0.out.mono ?_
  rintro e w1 ⟨rfl, hb1⟩
  have HB1 := Lib.hid hb1
  have b1 := fun w : World => build_row (some ⟨w1.heap.size, 0, none⟩) (some ⟨w1.heap.size + 1, 0, none⟩) 1 1 1 1 w
  have b2 := fun w : World => build_tab1 (some ⟨w1.heap.size + 1 + 1, 0, none⟩) 1 1 w
  clear hb1 C0
  cases wide with
  | false =>
    go_upto_region 7 with fail
    simp only [alloc_eq_grow, grow_grow]
    generalize hw2 : grow w1 _ = w2
    have HT := Lib.hid (show TabIn w2 (lgT w1.heap.size (w1.heap.size + 1) [lgE]) from hw2 ▸ lg_in (grow_at _ _ 0 _ (by omega)) (grow_at _ _ 2 _ (by omega)) (els_lit _ _ 26 (0, 0) _ (grow_at _ _ 1 _ (by omega))) (by decide))
    have hsz : w1.heap.size + 3 < w2.heap.size := by rw [← hw2, size_grow]; simp
    have HX := Lib.hid (show BoxAt w2 (w1.heap.size + 1 + 1 + 1) (lgT w1.heap.size (w1.heap.size + 1) [lgE]) from by
      have e := hw2 ▸ grow_at w1 _ 3 (w1.heap.size + 1 + 1 + 1) (by omega)
      refine ⟨by omega, ?_, ?_, ?_, ?_⟩ <;> (unfold World.cell?; rw [e]; rfl))
    have HB2 := Lib.hid (HB1.out.trans ((show Below w1.heap.size w1 w2 from hw2 ▸ grow_below w1 0 _).mono HB1.out.size))
    have HU2 := Lib.hid (Sc.tabs_below HU.out HB2.out)
    clear hw2 b1 b2 b3
    obtain ⟨m, hm⟩ : ∃ m : Nat, n % 80 = (m : Int) := ⟨(n % 80).toNat, by omega⟩
    have hm80 : m < 80 := by omega
    have HM := Lib.hid hm
    clear hm
    go_wp2_with fail
    go_loopg [6, 7] m (fun gg vs vi wr => ∃ (j : Nat) (st : ByteArray), j ≤ m ∧ m - j ≤ gg ∧ vs = .string st ∧ vi = .int .i64 j ∧ st.size = j ∧ Hid (st.data.toList = List.replicate st.size 97) ∧ w2 = wr)
    case atStart => exact ⟨0, ⟨#[]⟩, by omega, by omega, rfl, rfl, rfl, Lib.hid rfl, rfl⟩
    case round =>
      obtain ⟨j, st, hjm, hjg, rfl, rfl, hsj, HST, rfl⟩ := hrel
      by_cases hj : j < m
      · have hjz : (j : Int) < n % 80 := by have := HM.out; omega
        have ha := fun w : World => run_string_add_sum (P := Tryd.prog) (w := w) st ⟨#[97]⟩ (by show st.size + 1 ≤ _; omega)
        obtain ⟨st2, hst2⟩ : ∃ x, st ++ (⟨#[97]⟩ : ByteArray) = x := ⟨_, rfl⟩
        have hsz2 : st2.size = j + 1 := by rw [← hst2, ByteArray.size_append, hsj]; rfl
        have HS2 := Lib.hid (show st2.data.toList = List.replicate st2.size 97 by
          rw [hsz2, ← hst2, ByteArray.data_append, Array.toList_append, HST.out, hsj, List.replicate_succ'])
        simp only [hst2] at ha
        have HSZ := Lib.hid hsz2
        clear hst2 hsz2 hsj
        go_wp2_with fail
        go_roundg (m - (j + 1))
        case measure => omega
        case rel => exact ⟨j + 1, st2, by omega, by omega, rfl, by go_num, HSZ.out, HS2, rfl⟩
      · have hjz : ¬ (j : Int) < n % 80 := by have := HM.out; omega
        have hs80 : st.size < 80 := by omega
        have CM := Lib.hid (make_any (lgT w1.heap.size (w1.heap.size + 1) [lgE]) st w2 HT.out (by simp [lgT]) (by simp [lgT]) HU2.out (by omega))
        have hlg := fun k er => lg_make (T := (lgT w1.heap.size (w1.heap.size + 1) [lgE])) (a := 6) (lg_may1 _ _) (fun h => lg_len1 _ _ _ h) HST.out (k := k) (er := er)
        have HLG := Lib.hid hlg
        obtain ⟨_, t0, t1, t2, t3⟩ := HX.out
        clear hlg hsj
        go_wp2_with fail
        refine CM.out.mono ?_
        rintro e w3 ⟨k, er, rfl, hb3, hmk⟩
        have HB3 := Lib.hid (HB2.out.trans (hb3.mono HB2.out.size))
        have hres := HLG.out k er hmk
        clear hb3 hmk CM HLG t0 t1 t2 t3 HT HX
        rcases hres with ⟨hl, rfl, rfl⟩ | ⟨h1, h2, h3, rfl⟩
        · by_cases h64 : 64 < st.size
          · have h64z : (64 : Int) < (st.size : Int) := by omega
            clear hl
            go_wp2_with fail
            go_ret
            exact ⟨rfl, HB3.out⟩
          · have h64z : decide ((64 : Int) < (st.size : Int)) = false := decide_eq_false (by omega)
            have h640 : (640 : Int) < 6 * (st.size : Int) + 6 := by omega
            clear hl h64
            go_wp2_with fail
            go_ret
            exact ⟨rfl, HB3.out⟩
        · have h64z : decide ((64 : Int) < (st.size : Int)) = false := decide_eq_false (by omega)
          have h640 : decide ((640 : Int) < 6 * (st.size : Int) + 6) = false := decide_eq_false (by omega)
          have hkb : (((k.length : Nat) : Int) == 6 * (st.size : Int) + 6) = true := by simp; omega
          clear h1 h2 h3
          go_wp2_with fail
          go_ret
          exact ⟨rfl, HB3.out⟩
  | true =>
    go_upto_region 7 with fail
    simp only [alloc_eq_grow, grow_grow]
    generalize hw2 : grow w1 _ = w2
    have HT := Lib.hid (show TabIn w2 (lgT w1.heap.size (w1.heap.size + 1 + 1 + 1 + 1) [lgE, lgE, lgE, lgE]) from hw2 ▸ lg_in (grow_at _ _ 0 _ (by omega)) (grow_at _ _ 2 _ (by omega)) (els_lit _ _ 26 (0, 0) _ (grow_at _ _ 4 _ (by omega))) (by decide))
    have hsz : w1.heap.size + 3 < w2.heap.size := by rw [← hw2, size_grow]; simp
    have HX := Lib.hid (show BoxAt w2 (w1.heap.size + 1 + 1 + 1) (lgT w1.heap.size (w1.heap.size + 1 + 1 + 1 + 1) [lgE, lgE, lgE, lgE]) from by
      have e := hw2 ▸ grow_at w1 _ 3 (w1.heap.size + 1 + 1 + 1) (by omega)
      refine ⟨by omega, ?_, ?_, ?_, ?_⟩ <;> (unfold World.cell?; rw [e]; rfl))
    have HB2 := Lib.hid (HB1.out.trans ((show Below w1.heap.size w1 w2 from hw2 ▸ grow_below w1 0 _).mono HB1.out.size))
    have HU2 := Lib.hid (Sc.tabs_below HU.out HB2.out)
    clear hw2 b1 b2 b3
    obtain ⟨m, hm⟩ : ∃ m : Nat, n % 80 = (m : Int) := ⟨(n % 80).toNat, by omega⟩
    have hm80 : m < 80 := by omega
    have HM := Lib.hid hm
    clear hm
    go_wp2_with fail
    go_loopg [6, 7] m (fun gg vs vi wr => ∃ (j : Nat) (st : ByteArray), j ≤ m ∧ m - j ≤ gg ∧ vs = .string st ∧ vi = .int .i64 j ∧ st.size = j ∧ Hid (st.data.toList = List.replicate st.size 97) ∧ w2 = wr)
    case atStart => exact ⟨0, ⟨#[]⟩, by omega, by omega, rfl, rfl, rfl, Lib.hid rfl, rfl⟩
    case round =>
      obtain ⟨j, st, hjm, hjg, rfl, rfl, hsj, HST, rfl⟩ := hrel
      by_cases hj : j < m
      · have hjz : (j : Int) < n % 80 := by have := HM.out; omega
        have ha := fun w : World => run_string_add_sum (P := Tryd.prog) (w := w) st ⟨#[97]⟩ (by show st.size + 1 ≤ _; omega)
        obtain ⟨st2, hst2⟩ : ∃ x, st ++ (⟨#[97]⟩ : ByteArray) = x := ⟨_, rfl⟩
        have hsz2 : st2.size = j + 1 := by rw [← hst2, ByteArray.size_append, hsj]; rfl
        have HS2 := Lib.hid (show st2.data.toList = List.replicate st2.size 97 by
          rw [hsz2, ← hst2, ByteArray.data_append, Array.toList_append, HST.out, hsj, List.replicate_succ'])
        simp only [hst2] at ha
        have HSZ := Lib.hid hsz2
        clear hst2 hsz2 hsj
        go_wp2_with fail
        go_roundg (m - (j + 1))
        case measure => omega
        case rel => exact ⟨j + 1, st2, by omega, by omega, rfl, by go_num, HSZ.out, HS2, rfl⟩
      · have hjz : ¬ (j : Int) < n % 80 := by have := HM.out; omega
        have hs80 : st.size < 80 := by omega
        have CM := Lib.hid (make_any (lgT w1.heap.size (w1.heap.size + 1 + 1 + 1 + 1) [lgE, lgE, lgE, lgE]) st w2 HT.out (by simp [lgT]) (by simp [lgT]) HU2.out (by omega))
        have hlg := fun k er => lg_make (T := (lgT w1.heap.size (w1.heap.size + 1 + 1 + 1 + 1) [lgE, lgE, lgE, lgE])) (a := 24) (lg_may4 _ _) (fun h => lg_len4 _ _ _ h) HST.out (k := k) (er := er)
        have HLG := Lib.hid hlg
        obtain ⟨_, t0, t1, t2, t3⟩ := HX.out
        clear hlg hsj
        go_wp2_with fail
        refine CM.out.mono ?_
        rintro e w3 ⟨k, er, rfl, hb3, hmk⟩
        have HB3 := Lib.hid (HB2.out.trans (hb3.mono HB2.out.size))
        have hres := HLG.out k er hmk
        clear hb3 hmk CM HLG t0 t1 t2 t3 HT HX
        rcases hres with ⟨hl, rfl, rfl⟩ | ⟨h1, h2, h3, rfl⟩
        · by_cases h64 : 64 < st.size
          · have h64z : (64 : Int) < (st.size : Int) := by omega
            clear hl
            go_wp2_with fail
            go_ret
            exact ⟨rfl, HB3.out⟩
          · have h64z : decide ((64 : Int) < (st.size : Int)) = false := decide_eq_false (by omega)
            have h640 : (640 : Int) < 24 * (st.size : Int) + 6 := by omega
            clear hl h64
            go_wp2_with fail
            go_ret
            exact ⟨rfl, HB3.out⟩
        · have h64z : decide ((64 : Int) < (st.size : Int)) = false := decide_eq_false (by omega)
          have h640 : decide ((640 : Int) < 24 * (st.size : Int) + 6) = false := decide_eq_false (by omega)
          have hkb : (((k.length : Nat) : Int) == 24 * (st.size : Int) + 6) = true := by simp; omega
          clear h1 h2 h3
          go_wp2_with fail
          go_ret
          exact ⟨rfl, HB3.out⟩
end Go.Proofs.YtcocmmndonlhkaaDoor
