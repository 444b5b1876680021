/-
  LoreMarks: the walk.
-/
import Derived.Test.YtaoaicmagccfmaaLoAwake
import Derived.Test.YtaoaicmagccfmaaGrow1
namespace Go.Gz
/-- five marks and their classes. -/
def mkL : List LR := [⟨768, 9, none, [], 0⟩, ⟨769, 5, none, [], 0⟩, ⟨770, 9, none, [], 0⟩, ⟨771, 1, none, [], 0⟩, ⟨772, 5, none, [], 0⟩]
def mkC (j : Nat) : Int := mkL[j]!.c
def mk (u : Int) : Int := 768 + u % 5
theorem mk_no (r : Int) : (toL mkL r) = [] := by
  unfold toL
  rcases find_mem (ls := mkL) (r := r) with ⟨hm, _⟩ | h0
  · generalize findL mkL r = q at hm ⊢
    simp only [mkL, List.mem_cons, List.not_mem_nil, or_false] at hm
    rcases hm with h | h | h | h | h <;> rw [h]
  · rw [h0]; rfl
theorem mk_apart : ∀ s : List Int, apartL mkL s = s
  | [] => rfl
  | r :: t => by
    have h1 : ap1 mkL r = [r] := by unfold ap1; rw [mk_no]; rfl
    have e : apartL mkL (r :: t) = ap1 mkL r ++ apartL mkL t := by simp [apartL]
    rw [e, h1, mk_apart t]; rfl
theorem mk_cls (j : Nat) (hj : j < 5) : clsL mkL (768 + (j : Int)) = mkC j := by
  match j, hj with
  | 0, _ => rfl
  | 1, _ => rfl
  | 2, _ => rfl
  | 3, _ => rfl
  | 4, _ => rfl
theorem mkC_cases (j : Nat) (hj : j < 5) : mkC j = 1 ∨ mkC j = 5 ∨ mkC j = 9 := by
  match j, hj with
  | 0, _ => exact Or.inr (Or.inr rfl)
  | 1, _ => exact Or.inr (Or.inl rfl)
  | 2, _ => exact Or.inr (Or.inr rfl)
  | 3, _ => exact Or.inl rfl
  | 4, _ => exact Or.inr (Or.inl rfl)
theorem mk_nat (u : Int) (_h : 0 ≤ u) : ∃ j : Nat, j < 5 ∧ mk u = 768 + (j : Int) ∧ u % 5 = (j : Int) := ⟨(u % 5).toNat, by omega, by unfold mk; omega, by omega⟩
def ofC (c : Int) (l : List Int) : List Int := l.filter fun x => decide (clsL mkL x = c)
theorem mk_order (l : List Int) (h : ∀ x ∈ l, clsL mkL x = 1 ∨ clsL mkL x = 5 ∨ clsL mkL x = 9) : orderL (clsL mkL) (apartL mkL (97 :: l)) = 97 :: (ofC 1 l ++ (ofC 5 l ++ ofC 9 l)) := by
  rw [mk_apart]
  have h0 : clsL mkL 97 ≤ 0 := by decide
  have e1 : orderL (clsL mkL) (97 :: l) = 97 :: orderL (clsL mkL) l := by
    have := order_part (key := clsL mkL) h0 [] l
    simpa [orderL, ordGo, isort] using this
  rw [e1]
  congr 1
  have e2 : orderL (clsL mkL) l = isort (clsL mkL) l := by
    have := ordGo_marks (key := clsL mkL) l [] [] (fun x hx => by rcases h x hx with h | h | h <;> omega)
    rw [List.append_nil] at this
    unfold orderL
    rw [this, List.nil_append, ordGo]
  rw [e2]
  symm
  have mem : ∀ c x, x ∈ ofC c l → clsL mkL x = c := fun c x hx => of_decide_eq_true (List.mem_filter.1 hx).2
  have same : ∀ c, SrtL (clsL mkL) (ofC c l) := fun c => by
    unfold SrtL
    rw [List.pairwise_iff_getElem]
    intro i j hi hj _
    rw [mem c _ (List.getElem_mem hi), mem c _ (List.getElem_mem hj)]
    omega
  refine isort_uniq ?_ fun c => ?_
  · unfold SrtL
    rw [List.pairwise_append, List.pairwise_append]
    refine ⟨same 1, ⟨same 5, same 9, fun x hx y hy => by rw [mem 5 x hx, mem 9 y hy]; omega⟩, fun x hx y hy => ?_⟩
    rcases List.mem_append.1 hy with hy | hy
    · rw [mem 1 x hx, mem 5 y hy]; omega
    · rw [mem 1 x hx, mem 9 y hy]; omega
  · have one : ∀ d, (ofC d l).filter (fun x => decide (clsL mkL x = c)) = if d = c then ofC c l else [] := fun d => by
      split
      · rename_i hd
        subst hd
        exact List.filter_eq_self.2 fun x hx => decide_eq_true (mem d x hx)
      · rename_i hd
        exact List.filter_eq_nil_iff.2 fun x hx => by rw [mem d x hx]; simpa using hd
    rw [List.filter_append, List.filter_append, one, one, one]
    show _ = ofC c l
    by_cases c1 : (1 : Int) = c
    · subst c1; simp
    · by_cases c5 : (5 : Int) = c
      · subst c5; simp
      · by_cases c9 : (9 : Int) = c
        · subst c9; simp
        · rw [if_neg c1, if_neg c5, if_neg c9]
          symm
          exact List.filter_eq_nil_iff.2 fun x hx => by
            have := h x hx
            simp only [decide_eq_true_eq]
            intro hc
            omega
end Go.Gz
namespace Go.Proofs.Ytaoaicmagccfmaa
open Go.RowKit Go.Gz Go.Sort

theorem cell_new (w : World) (v : Value) (t : TypeId) : (w.alloc (.cells #[v] t)).cell? ⟨w.heap.size, 0, none⟩ = some v := by
  rw [World.cell?_alloc_new]; rfl

theorem mk_may : mayB mkL = true := by kernel_rfl
theorem own_row_at {w : World} {B : Nat} {e : TypeId} {k : IntKind} {v : Value} {xs : List Int} (h : Own w B e k v xs) : ∃ p c, v = .slice p xs.length c ∧ Row w k p xs ∧ ∀ b o, p = some ⟨b, o, none⟩ → v.ownBlock = some b := by
  obtain ⟨p, c, hv, _, hr⟩ := Own.row h
  obtain ⟨_, ⟨h2, _⟩ | ⟨g, cap, cur, h2, _⟩⟩ := h
  · exact ⟨p, c, hv, hr, fun b o hp => by rw [h2] at hv; injection hv with hv; rw [← hv] at hp; cases hp⟩
  · refine ⟨p, c, hv, hr, fun b o hp => ?_⟩
    rw [h2] at hv ⊢
    injection hv with hv
    rw [← hv] at hp
    injection hp with hp
    injection hp with hp
    simp [Value.ownBlock, hp]

def wantAt (M : List Int) (c : Nat) : List Int := 97 :: (([1, 5, 9] : List Int).take c).flatMap fun d => ofC d M
theorem ofC_snoc (c : Int) (M : List Int) (i : Nat) (h : i < M.length) : ofC c (M.take (i + 1)) = ofC c (M.take i) ++ if clsL mkL (M.getD i 0) = c then [M.getD i 0] else [] := by
  unfold ofC
  rw [take_snoc_getD M i h, List.filter_append]
  congr 1
  by_cases hc : clsL mkL (M.getD i 0) = c
  · rw [if_pos hc]; simp only [List.filter_cons]; rw [if_pos (decide_eq_true hc)]; rfl
  · rw [if_neg hc]; simp only [List.filter_cons]; rw [if_neg (by simpa using hc)]; rfl

set_option maxHeartbeats 4000000 in
set_option maxRecDepth 100000 in
theorem marks_walk (l : List Int) (p : Option Addr) (cap : Nat) (W : World) (hp : Row W .u8 p l) (hz : l.length ≤ 9223372036854775807) (hv : ∀ n ∈ l, 0 ≤ n ∧ n ≤ 255) :
    Calls Try.prog 6 #[.slice p l.length cap] W fun e w' => e = .returned (.bool true) ∧ Below W.heap.size W w' := by
  have C0 := Lib.hid (awake_true W)
  have b2 := fun (x y : Int) (w : World) => build_lore01 x y w
  have HP := Lib.hid hp; clear hp
  have HV := Lib.hid hv; clear hv
  go_enter Try.func6, Try.ntmps6
  go_wp2_with fail
  refine C0.out.mono ?_
  rintro e w1 ⟨rfl, hb1⟩
  have HB1 := Lib.hid hb1
  have hs1 := hb1.size
  clear hb1 C0
  by_cases h40 : 40 < l.length
  · have h40z : (40 : Int) < (l.length : Int) := by omega
    go_wp2_with fail
    go_ret
    exact ⟨rfl, HB1.out⟩
  · have h40z : ¬ (40 : Int) < (l.length : Int) := by omega
    obtain ⟨w4, hw4⟩ : ∃ w4, w4 = ((w1.alloc (.cells (flatL mkL).toArray 33)).alloc (.cells (([97] : List Int).map (Value.int .i32)).toArray 21)).alloc (.cells (([97] : List Int).map (Value.int .i32)).toArray 21) := ⟨_, rfl⟩
    have hg4 : w4 = grow w1 #[.cells (flatL mkL).toArray 33, .cells (([97] : List Int).map (Value.int .i32)).toArray 21, .cells (([97] : List Int).map (Value.int .i32)).toArray 21] := by
      rw [hw4]; simp only [alloc_eq_grow, grow_grow]; rfl
    have hsz4 : w4.heap.size = w1.heap.size + 3 := by rw [hg4, size_grow]; rfl
    have at4 : ∀ k, w4.heap[w1.heap.size + k]? = (#[.cells (flatL mkL).toArray 33, .cells (([97] : List Int).map (Value.int .i32)).toArray 21, .cells (([97] : List Int).map (Value.int .i32)).toArray 21] : Array Obj)[k]? := fun k => by
      rw [hg4]; unfold grow
      rw [Array.getElem?_append_right (by omega), Nat.add_sub_cancel_left]
    have hb14 := Lib.hid (show Below w1.heap.size w1 w4 by rw [hg4]; exact grow_below w1 0 _)
    have HB4 := Lib.hid (HB1.out.trans (hb14.out.mono hs1))
    have HT4 := Lib.hid (show Lores w4 (some ⟨w1.heap.size, 0, none⟩) mkL from lores_lit w4 _ 33 (0, 0) _ (at4 0) fun x hx => by
      simp only [mkL, List.mem_cons, List.not_mem_nil, or_false] at hx
      rcases hx with rfl | rfl | rfl | rfl | rfl <;> exact ⟨Or.inl rfl, Nat.le_refl _, fun _ => rfl⟩)
    have G0 := Lib.hid (Grow1.start w4 (w1.heap.size + 1) 21 .i32 [97] (at4 1) (by decide))
    have hw42 := Lib.hid (at4 2)
    clear at4 hg4 hb14
    go_wp2_with fail
    change Code.wp _ _ _ _ (((w1.alloc (.cells (flatL mkL).toArray 33)).alloc (.cells (([97] : List Int).map (Value.int .i32)).toArray 21)).alloc (.cells (([97] : List Int).map (Value.int .i32)).toArray 21))
    rw [← hw4]
    clear hw4
    obtain ⟨tb, htb⟩ : ∃ tb, w1.heap.size = tb := ⟨_, rfl⟩
    rw [htb] at hsz4 HT4 G0 hw42 hs1 ⊢
    clear htb
    obtain ⟨n, hn⟩ : ∃ n, l.length = n := ⟨_, rfl⟩
    rw [hn] at h40 ⊢
    have HN := Lib.hid hn
    clear hn hz h40z
    have hs4a : tb + 3 ≤ w4.heap.size := by omega
    have hs4b : w4.heap.size ≤ tb + 3 := by omega
    clear hsz4
    go_loopg [4, 6] n (fun g vs vi wr => ∃ k : Nat, vi = .int .i64 k ∧ k ≤ n ∧ n - k ≤ g ∧ Hid (Grow1 21 .i32 w4 (tb + 1) wr vs (97 :: (l.take k).map mk)))
    case atStart => exact ⟨0, rfl, Nat.zero_le _, by omega, G0⟩
    case round =>
      clear G0
      obtain ⟨k, rfl, hkn, hg, HG⟩ := hrel
      by_cases hlt : k < n
      · have hltz : (k : Int) < (n : Int) := by omega
        have HBr := Lib.hid (HG.out.below HB4.out (show W.heap.size ≤ tb + 1 by omega) (Nat.le_refl _))
        obtain ⟨b, o, rfl, hbW, hcell⟩ := row_cell HP.out HBr.out (show k < l.length by rw [HN.out]; exact hlt)
        have hts := Lib.hid (take_snoc_getD l k (by rw [HN.out]; exact hlt))
        have huv := HV.out (l.getD k 0) (by simp [List.getD, show k < l.length by rw [HN.out]; exact hlt])
        obtain ⟨u, hu⟩ : ∃ u, l.getD k 0 = u := ⟨_, rfl⟩
        rw [hu] at hcell hts huv
        clear hu
        obtain ⟨hu1, hu2⟩ := huv
        have hsr := HG.out.keep.size
        have hlen : (97 :: (l.take k).map mk).length = k + 1 := by simp; rw [HN.out]; omega
        have HLen := Lib.hid hlen; clear hlen
        go_wp2_with (at_builtin; refine wpList_grow1 rfl _ _ 23 rfl 21 .i32 4 Try.underlying23 info_rune (by decide) w4 (tb + 1) _ _ rfl (HG.out.alloc _) wr.heap.size 1 1 [768 + u % 5] rfl rfl ?newCells (by rw [HLen.out]; omega) ?_)
        case newCells =>
          intro j hj
          match j, hj with
          | 0, _ => simp
        intro v' w5 hG5
        have HG5 := Lib.hid hG5; clear hG5
        go_wp2_with fail
        go_roundg (n - (k + 1))
        case measure => omega
        case rel => exact ⟨k + 1, by go_num, by omega, by omega, Lib.hid (by
          have := HG5.out
          rw [hts.out, List.map_append, List.map_take]
          exact this)⟩
      · obtain rfl : k = n := by omega
        have hltz : ¬ (k : Int) < (k : Int) := by omega
        have HBr := Lib.hid (HG.out.below HB4.out (show W.heap.size ≤ tb + 1 by omega) (Nat.le_refl _))
        have hsr := HG.out.keep.size
        have hwant := HG.out.keep.block (tb + 2) (by omega) (by intro hh; injection hh with hh; omega)
        rw [hw42.out] at hwant
        have htab : ∀ j, j < 5 → wr.cell? ⟨tb, j * 3 + 1, none⟩ = some (.int .i64 (mkC j)) := fun j hj => by
          rcases HT4.out with h0 | ⟨b, o, hpe, _, hc⟩
          · simp [mkL] at h0
          · simp only [Option.some.injEq, Addr.mk.injEq, and_true] at hpe
            obtain ⟨rfl, rfl⟩ := hpe
            have := (hc j hj).2.1
            rw [Nat.zero_add] at this
            exact HG.out.cell (by omega) (by omega) this
        have hlw : Lores wr (some ⟨tb, 0, none⟩) mkL := by
          rcases HT4.out with h0 | ⟨b, o, hpe, _, hc⟩
          · simp [mkL] at h0
          · simp only [Option.some.injEq, Addr.mk.injEq, and_true] at hpe
            obtain ⟨rfl, rfl⟩ := hpe
            refine Or.inr ⟨tb, 0, rfl, by omega, fun j hj => ?_⟩
            obtain ⟨k1, k2, k3, k4⟩ := hc j hj
            refine ⟨HG.out.cell (by omega) (by omega) k1, HG.out.cell (by omega) (by omega) k2, HG.out.cell (by omega) (by omega) k3, ?_, k4.2⟩
            left
            have hm := get_mem hj
            simp only [mkL, List.mem_cons, List.not_mem_nil, or_false] at hm
            rcases hm with h | h | h | h | h <;> (rw [show mkL[j]! = _ from h])
        have hgo := HG.out
        have htk : l.take k = l := by rw [← HN.out]; exact List.take_length
        rw [htk] at hgo
        have hMl : (l.map mk).length = k := by rw [List.length_map, HN.out]
        have hMv : ∀ x ∈ l.map mk, ∃ j : Nat, j < 5 ∧ x = 768 + (j : Int) := fun x hx => by
          obtain ⟨u, hu, rfl⟩ := List.mem_map.1 hx
          obtain ⟨j, h1, h2, _⟩ := mk_nat u (HV.out u hu).1
          exact ⟨j, h1, h2⟩
        obtain ⟨M, hM⟩ : ∃ M, l.map mk = M := ⟨_, rfl⟩
        rw [hM] at hgo hMl hMv
        obtain ⟨ps, cs, hvs, hrs, hbs⟩ := own_row_at hgo.own
        have hps : ∀ b o, ps = some ⟨b, o, none⟩ → b ≠ tb + 2 := fun b o hp => by
          rcases hgo.at_ b (hbs b o hp) with h | h <;> omega
        have hl5 : (97 :: M).length = k + 1 := by simp [hMl]
        rw [hl5] at hvs
        have HTab := Lib.hid htab; clear htab
        have HLw := Lib.hid hlw; clear hlw
        have HRs := Lib.hid hrs; clear hrs
        have HPs := Lib.hid hps; clear hps
        have HML := Lib.hid hMl; clear hMl hl5
        have HMV := Lib.hid hMv; clear hMv
        have HWa := Lib.hid hwant; clear hwant
        clear hgo hbs htk hM HT4 hw42
        subst hvs
        clear HG
        go_wp2_with fail
        obtain ⟨w5, hw5⟩ : ∃ w5, w5 = wr.alloc (.cells #[.int .i64 1, .int .i64 5, .int .i64 9] 3) := ⟨_, rfl⟩
        have hb5 : Below wr.heap.size wr w5 := by rw [hw5]; exact (Below.refl _ _).alloc (Nat.le_refl _) _
        have hs5 : w5.heap.size = wr.heap.size + 1 := by rw [hw5]; simp
        have hcl : ∀ c, c < 3 → w5.cell? ⟨wr.heap.size, c, none⟩ = some (.int .i64 (([1, 5, 9] : List Int).getD c 0)) := fun c hc => by
          rw [hw5]
          match c, hc with
          | 0, _ => simp
          | 1, _ => simp
          | 2, _ => simp
        rw [← hw5]
        clear hw5
        have HB5 := Lib.hid (HBr.out.trans (hb5.mono HBr.out.size))
        have HT5 := Lib.hid (fun j (hj : j < 5) => (hb5.cell (p := ⟨tb, j * 3 + 1, none⟩) (show tb < wr.heap.size by omega)).trans (HTab.out j hj))
        have HL5 := Lib.hid (HLw.out.below hb5)
        have HS5 := Lib.hid (HRs.out.below hb5)
        have HC5 := Lib.hid hcl
        have G5 := Lib.hid (Grow1.start w5 (tb + 1 + 1) 21 .i32 [97] ((hb5.block _ (show tb + 1 + 1 < wr.heap.size by omega)).trans HWa.out) (by decide))
        obtain ⟨cb, hcb⟩ : ∃ cb, wr.heap.size = cb := ⟨_, rfl⟩
        rw [hcb] at hs5 hsr HC5 ⊢
        clear hcl hb5 HTab HLw HRs HWa HBr hcb
        have hs5a : cb + 1 ≤ w5.heap.size := by omega
        clear hs5
        go_loopg [5, 8] 3 (fun g vw vc wr2 => ∃ c : Nat, vc = .int .i64 c ∧ c ≤ 3 ∧ 3 - c ≤ g ∧ Hid (Grow1 21 .i32 w5 (tb + 1 + 1) wr2 vw (wantAt M c)))
        case atStart => exact ⟨0, rfl, by omega, by omega, G5⟩
        case round =>
          clear G5
          obtain ⟨c, rfl, hc3, hg2, HG2⟩ := hrel
          by_cases hlt2 : c < 3
          · have hltz2 : (c : Int) < 3 := by omega
            obtain ⟨cc, hcc⟩ : ∃ cc, ([1, 5, 9] : List Int).getD c 0 = cc := ⟨_, rfl⟩
            have hc5 := HC5.out c hlt2
            rw [hcc] at hc5
            have HCC := Lib.hid hcc; clear hcc
            have HC5c := Lib.hid hc5; clear hc5
            go_wp2_with fail
            go_loopg [5, 9] (k + 1) (fun g3 vw vi wr3 => ∃ i : Nat, vi = .int .i64 i ∧ 1 ≤ i ∧ i ≤ k + 1 ∧ k + 1 - i ≤ g3 ∧ Hid (Grow1 21 .i32 w5 (tb + 1 + 1) wr3 vw (wantAt M c ++ ofC cc (M.take (i - 1)))))
            case atStart => exact ⟨1, rfl, Nat.le_refl _, by omega, by omega, Lib.hid (by have := HG2.out; simpa [ofC] using this)⟩
            case round =>
              clear HG2
              obtain ⟨i, rfl, hi1, hik, hg3, HG3⟩ := hrel
              have hB3 := Lib.hid (HG3.out.below HB5.out (show W.heap.size ≤ tb + 1 + 1 by omega) (Nat.le_refl _))
              by_cases hlt3 : i < k + 1
              · have hltz3 : (i : Int) < ((k + 1 : Nat) : Int) := by omega
                have hltz3' : (i : Int) < (k : Int) + 1 := by omega
                have hrow3 := HG3.out.row HS5.out HPs.out
                obtain ⟨bS, oS, hpS, hbS, cS⟩ := row_cell hrow3 (Below.refl _ _) (show i < (97 :: M).length by simp [HML.out]; omega)
                have hget : (97 :: M).getD i 0 = M.getD (i - 1) 0 := by
                  obtain ⟨ip, rfl⟩ : ∃ ip, i = ip + 1 := ⟨i - 1, by omega⟩
                  simp [List.getD]
                have hmem : M.getD (i - 1) 0 ∈ M := by
                  have : i - 1 < M.length := by rw [HML.out]; omega
                  simp [List.getD, this]
                obtain ⟨j, hj5, hje⟩ := HMV.out _ hmem
                have hsn := ofC_snoc cc M (i - 1) (by rw [HML.out]; omega)
                rw [hget, hje] at cS
                rw [hje, mk_cls j hj5, show i - 1 + 1 = i by omega] at hsn
                have cT := HG3.out.cell (b := tb) (by omega) (by omega) (HT5.out j hj5)
                have cC := HG3.out.cell (b := cb) (by omega) (by omega) HC5c.out
                have HSn := Lib.hid hsn
                clear hget hmem hje hsn hrow3
                subst hpS
                obtain ⟨cj, hcj⟩ : ∃ cj, mkC j = cj := ⟨_, rfl⟩
                rw [hcj] at cT HSn
                clear hcj
                have ew : IntKind.i32.wrap (j : Int) = (j : Int) := by rw [IntKind.wrap_i32]; omega
                have ew64 : IntKind.i64.wrap (j : Int) = (j : Int) := by rw [IntKind.wrap_i64]; omega
                have ee : (768 : Int) + (j : Int) - 768 = (j : Int) := by omega
                have hjz : (j : Int) < 5 := by omega
                have hlenk : (wantAt M c ++ ofC cc (M.take (i - 1))).length ≤ 500 := by
                  have h1 : (ofC cc (M.take (i - 1))).length ≤ M.length := Nat.le_trans (List.length_filter_le _ _) (by rw [List.length_take]; exact Nat.min_le_right _ _)
                  have h2 : (wantAt M c).length ≤ 1 + 3 * M.length := by
                    have hf : ∀ d, (ofC d M).length ≤ M.length := fun d => List.length_filter_le _ _
                    unfold wantAt
                    match c, hlt2 with
                    | 0, _ => simp
                    | 1, _ => have := hf 1; simp; omega
                    | 2, _ => have := hf 1; have := hf 5; simp; omega
                  rw [List.length_append, HML.out] at *
                  omega
                by_cases heq : cj = cc
                · have heb : ((cj : Int) == cc) = true := by simp [heq]
                  rw [if_pos heq] at HSn
                  have HLk := Lib.hid hlenk; clear hlenk heq
                  go_wp2_with fail
                  go_quiet (fail)
                  go_wp2_with (at_builtin; refine wpList_grow1 rfl _ _ 23 rfl 21 .i32 4 Try.underlying23 info_rune (by decide) w5 (tb + 1 + 1) _ _ rfl ((HG3.out.drewN _).alloc _) wr.heap.size 1 1 [768 + (j : Int)] rfl rfl ?newCells (by have := HLk.out; omega) ?_)
                  case newCells =>
                    intro j hj
                    match j, hj with
                    | 0, _ =>
                      exact cell_new (wr.drewN nq) _ _
                  intro v' w6 hG6
                  have HG6 := Lib.hid hG6; clear hG6
                  go_wp2_with fail
                  go_roundg (k + 1 - (i + 1))
                  case measure => omega
                  case rel => exact ⟨i + 1, by go_num, by omega, by omega, by omega, Lib.hid (by
                    have := HG6.out
                    rw [show i + 1 - 1 = i by omega, HSn.out]
                    exact this)⟩
                · have heb : ((cj : Int) == cc) = false := by simp [heq]
                  rw [if_neg heq, List.append_nil] at HSn
                  clear heq hlenk
                  go_wp2_with fail
                  go_quiet (fail)
                  go_wp2_with fail
                  go_roundg (k + 1 - (i + 1))
                  case measure => omega
                  case rel => exact ⟨i + 1, by go_num, by omega, by omega, by omega, Lib.hid (by
                    have := HG3.out.drewN nq
                    rw [show i + 1 - 1 = i by omega, HSn.out]
                    exact this)⟩
              · obtain rfl : i = k + 1 := by omega
                have hltz3 : ¬ (((k + 1 : Nat) : Int) < ((k + 1 : Nat) : Int)) := by omega
                go_wp2_with fail
                go_roundg (3 - (c + 1))
                case measure => omega
                case rel => exact ⟨c + 1, by go_num, by omega, by omega, Lib.hid (by
                  have := HG3.out
                  have e1 : M.take (k + 1 - 1) = M := by rw [show k + 1 - 1 = M.length by rw [HML.out]; omega, List.take_length]
                  rw [e1] at this
                  have e2 : wantAt M (c + 1) = wantAt M c ++ ofC cc M := by
                    rw [← HCC.out]
                    unfold wantAt
                    match c, hlt2 with
                    | 0, _ => simp
                    | 1, _ => simp
                    | 2, _ => simp
                  rw [e2]
                  exact this)⟩
          · obtain rfl : c = 3 := by omega
            have hB3 := Lib.hid (HG2.out.below HB5.out (show W.heap.size ≤ tb + 1 + 1 by omega) (Nat.le_refl _))
            have hw3 : wantAt M 3 = orderL (clsL mkL) (apartL mkL (97 :: M)) := by
              rw [mk_order M (fun x hx => by
                obtain ⟨j, h1, h2⟩ := HMV.out x hx
                rw [h2, mk_cls j h1]; exact mkC_cases j h1)]
              simp [wantAt]
            have hgo := HG2.out
            rw [hw3] at hgo
            obtain ⟨pw, cw, hvw, hrw, _⟩ := own_row_at hgo.own
            have hrs := HG2.out.row HS5.out HPs.out
            have hnl : (normalL mkL (97 :: M)).length = k + 1 := by rw [normal_length, mk_apart]; simp [HML.out]
            have hlm : Lores wr (some ⟨tb, 0, none⟩) mkL := by
              rcases HL5.out with h0 | ⟨b, o, hpe, _, hc⟩
              · simp [mkL] at h0
              · simp only [Option.some.injEq, Addr.mk.injEq, and_true] at hpe
                obtain ⟨rfl, rfl⟩ := hpe
                refine Or.inr ⟨tb, 0, rfl, by have := HG2.out.keep.size; omega, fun j hj => ?_⟩
                obtain ⟨k1, k2, k3, k4⟩ := hc j hj
                refine ⟨HG2.out.cell (by omega) (by omega) k1, HG2.out.cell (by omega) (by omega) k2, HG2.out.cell (by omega) (by omega) k3, ?_, k4.2⟩
                left
                have hm := get_mem hj
                simp only [mkL, List.mem_cons, List.not_mem_nil, or_false] at hm
                rcases hm with h | h | h | h | h <;> (rw [show mkL[j]! = _ from h])
            have hvalid : (97 :: M).any mayNotB = false := by
              rw [List.any_eq_false]
              intro x hx
              rcases List.mem_cons.1 hx with rfl | hx
              · decide
              · obtain ⟨j, h1, h2⟩ := HMV.out x hx
                rw [h2]
                match j, h1 with
                | 0, _ => decide
                | 1, _ => decide
                | 2, _ => decide
                | 3, _ => decide
                | 4, _ => decide
            have C6 := normal_ok mkL mk_may (some ⟨tb, 0, none⟩) 5 (97 :: M) hvalid ps cs wr hlm hrs (by decide) (by simp [HML.out]; omega)
            rw [show (97 :: M).length = k + 1 by simp [HML.out]] at C6
            have HC6 := Lib.hid C6
            have HN6 := Lib.hid hnl
            have HRw := Lib.hid (show Row wr .i32 pw (normalL mkL (97 :: M)) from hrw)
            rw [show (orderL (clsL mkL) (apartL mkL (97 :: M))).length = k + 1 from hnl] at hvw
            clear C6 hnl hlm hvalid hrw hw3 hgo hrs HG2
            subst hvw
            generalize normalL mkL (97 :: M) = N at HC6 HN6 HRw
            go_wp2_with fail
            refine HC6.out.mono ?_
            rintro e w7 ⟨v, rfl, hb7, hown⟩
            obtain ⟨q7, c7, rfl, _, hr7⟩ := Own.row hown
            have hs7 := hb7.size
            have HR7 := Lib.hid hr7
            have S8 := same_yes N q7 pw c7 cw w7 (by rw [HN6.out]; omega) HR7.out (HRw.out.below hb7)
            rw [HN6.out] at S8 ⊢
            have HS8 := Lib.hid S8
            have HB7 := Lib.hid (hB3.out.trans (hb7.mono hB3.out.size))
            clear S8 hb7 hown hr7 HC6
            go_wp2_with fail
            refine HS8.out.mono ?_
            rintro e w8 ⟨rfl, hb8⟩
            have HB8 := Lib.hid (HB7.out.trans (hb8.mono HB7.out.size))
            clear hb8
            go_wp2_with fail
            go_ret
            exact ⟨rfl, HB8.out⟩
end Go.Proofs.Ytaoaicmagccfmaa
