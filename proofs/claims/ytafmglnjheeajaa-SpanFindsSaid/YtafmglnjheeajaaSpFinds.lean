/-
  SpanFinds: the walk.
-/
import Derived.Test.YtafmglnjheeajaaSpFind
import Derived.Test.YtafmglnjheeajaaSpArgs
import Derived.Test.YtafmglnjheeajaaGrow1
namespace Go.Proofs.Ytafmglnjheeajaa
open Go.RowKit Go.Gz

set_option maxHeartbeats 1000000 in
/-- the law's first closure: the span at a place of l. -/
theorem finds1_any (ls : List SP) (p : Option Addr) (c B i : Nat) (w : World) (hs : Spans w p ls) (hc : w.cell? ⟨B, 0, none⟩ = some (.slice p ls.length c)) (hB : B < w.heap.size) (hi : i < ls.length) :
    Calls Try.prog 20 #[.int .i64 i, .pointer (some ⟨B, 0, none⟩)] w fun e w' => e = .returned (.agg #[.string ls[i]!.f, .string ls[i]!.t]) ∧ Below w.heap.size w w' := by
  obtain ⟨b, o, rfl, hbl, c1, c2⟩ := span_cell hs (Below.refl _ w) hi
  obtain ⟨f, hf⟩ : ∃ f, ls[i]!.f = f := ⟨_, rfl⟩
  obtain ⟨t, ht⟩ : ∃ t, ls[i]!.t = t := ⟨_, rfl⟩
  rw [hf] at c1 ⊢
  rw [ht] at c2 ⊢
  obtain ⟨n, hln⟩ : ∃ n, ls.length = n := ⟨_, rfl⟩
  rw [hln] at hi hc
  clear hf ht hln hs
  have hiz : (i : Int) < (n : Int) := by omega
  go_enter Try.func20, Try.ntmps20
  go_wp2_with fail
  refine bodyPost_ret (v := .agg #[.string f, .string t]) (by simp [results, Try.results20, go_sem]) rfl ⟨rfl, ?_⟩
  exact (Below.refl _ _).alloc (Nat.le_refl _) _
theorem finds2_any (u : Int) (w : World) :
    Calls Try.prog 22 #[.int .u8 u] w fun e w' => e = .returned (.agg #[.string ⟨#[98]⟩, .string ⟨#[99]⟩]) ∧ Below w.heap.size w w' := by
  have b1 := fun w => build_both ⟨#[98]⟩ ⟨#[99]⟩ w
  go_enter Try.func22, Try.ntmps22
  go_wp2_with fail
  refine bodyPost_ret (v := .agg #[.string ⟨#[98]⟩, .string ⟨#[99]⟩]) (by simp [results, Try.results22, go_sem]) rfl ⟨rfl, ?_⟩
  exact (Below.refl _ _).alloc (Nat.le_refl _) _

theorem info_int : (Try.prog.info? 3).map (fun i => (i.zero, i.size, i.bytes)) = some (some (.int .i64 0), 1, 8) := by kernel_rfl

/-- the places turned round. -/
def backL (n i : Nat) : List Int := (List.range i).map fun (j : Nat) => ((n - 1 - j : Nat) : Int)
theorem backL_succ (n i : Nat) : backL n (i + 1) = backL n i ++ [((n - 1 - i : Nat) : Int)] := by
  unfold backL
  rw [List.range_succ, List.map_append]
  rfl
theorem backL_len (n i : Nat) : (backL n i).length = i := by simp [backL]
theorem backL_at (n i j : Nat) (h : j < i) : (backL n i).getD j 0 = ((n - 1 - j : Nat) : Int) := by
  simp [backL, List.getD, h]

/-- v is the first place from t on where q holds (-1: none). -/
def WantAt (q : Nat → Bool) (n t : Nat) (v : Int) : Prop := (v = -1 ∧ ∀ j, t ≤ j → j < n → q j = false) ∨ (∃ j : Nat, v = (j : Int) ∧ t ≤ j ∧ j < n ∧ q j = true ∧ ∀ i, t ≤ i → i < j → q i = false)
theorem WantAt.yes {q : Nat → Bool} {n t : Nat} (h : t < n) (hq : q t = true) : WantAt q n t (t : Int) := Or.inr ⟨t, rfl, Nat.le_refl _, h, hq, fun i h1 h2 => by omega⟩
theorem WantAt.no {q : Nat → Bool} {n t : Nat} {v : Int} (h : WantAt q n (t + 1) v) (hq : q t = false) : WantAt q n t v := by
  rcases h with ⟨rfl, h⟩ | ⟨j, rfl, h1, h2, h3, h4⟩
  · refine Or.inl ⟨rfl, fun j h1 h2 => ?_⟩
    by_cases e : j = t
    · rw [e]; exact hq
    · exact h j (by omega) h2
  · refine Or.inr ⟨j, rfl, by omega, h2, h3, fun i h5 h6 => ?_⟩
    by_cases e : i = t
    · rw [e]; exact hq
    · exact h4 i (by omega) h6
theorem WantAt.all {q : Nat → Bool} {n : Nat} {v : Int} (h : WantAt q n 0 v) : v = idxL ((List.range n).map q) := by
  have hm : ∀ j, j < n → ((List.range n).map q)[j]! = q j := fun j hj => by rw [getElem!_pos _ j (by simpa using hj)]; simp
  rcases h with ⟨rfl, h⟩ | ⟨j, rfl, h1, h2, h3, h4⟩
  · rw [idx_miss _ fun j hj => by rw [List.length_map, List.length_range] at hj; rw [hm j hj]; exact h j (Nat.zero_le _) hj]
  · rw [idx_hit _ j (by simpa using h2) (by rw [hm j h2]; exact h3) fun i hi => by rw [hm i (by omega)]; exact h4 i (Nat.zero_le _) hi]
theorem idx_const (h : Bool) (m : Nat) : idxL ((List.range m).map fun _ => h) = if (h && decide (0 < m)) = true then 0 else -1 := by
  have hm : ∀ j, j < m → ((List.range m).map fun _ => h)[j]! = h := fun j hj => by rw [getElem!_pos _ j (by simpa using hj)]; simp
  by_cases c : (h && decide (0 < m)) = true
  · rw [if_pos c]
    simp only [Bool.and_eq_true, decide_eq_true_eq] at c
    rw [idx_hit _ 0 (by simpa using c.2) (by rw [hm 0 c.2]; exact c.1) fun i hi => by omega]
    rfl
  · rw [if_neg c]
    refine idx_miss _ fun j hj => ?_
    rw [List.length_map, List.length_range] at hj
    rw [hm j hj]
    cases h with
    | false => rfl
    | true => exact absurd (by simp; omega) c

set_option maxHeartbeats 8000000 in
set_option maxRecDepth 100000 in
theorem finds_walk (ls : List SP) (p : Option Addr) (c : Nat) (own : List Int) (q : Option Addr) (cq : Nat) (k : ByteArray) (W : World) (hs : Spans W p ls) (ho : Row W .u8 q own) (hn : ls.length ≤ 9223372036854775807) (hm : own.length ≤ 9223372036854775807) (hk : k.size ≤ 9223372036854775807) :
    Calls Try.prog 6 #[.slice p ls.length c, .slice q own.length cq, .string k] W fun e w' => e = .returned (.bool true) ∧ Below W.heap.size W w' := by
  have hmf : ∀ (fn : Fn) (first cap : Array Value) (w : World), (Instr.makeFunc fn first cap).run Try.prog w = .ok (.func fn first cap) w := fun _ _ _ _ => rfl
  have mx := mixedS
  have C0 := Lib.hid (fun w => awake_true w)
  have HS := Lib.hid hs; clear hs
  have HO := Lib.hid ho; clear ho
  obtain ⟨n, hln⟩ : ∃ n, ls.length = n := ⟨_, rfl⟩
  obtain ⟨m, hlm⟩ : ∃ m, own.length = m := ⟨_, rfl⟩
  have HN := Lib.hid hln
  have HM := Lib.hid hlm
  rw [hln] at hn ⊢
  rw [hlm] at hm ⊢
  clear hln hlm
  go_enter Try.func6, Try.ntmps6
  go_wp2_with fail
  obtain ⟨w0, hw0⟩ : ∃ w0, W.alloc (.cells #[.slice p n c] 26) = w0 := ⟨_, rfl⟩
  have HB0 := Lib.hid (show Below W.heap.size W w0 from hw0 ▸ (Below.refl _ _).alloc (Nat.le_refl _) _)
  have HC0 := Lib.hid (show W.heap.size < w0.heap.size ∧ w0.cell? ⟨W.heap.size, 0, none⟩ = some (.slice p n c) by rw [← hw0]; exact ⟨by simp, by simp [go_sem]⟩)
  rw [hw0]
  clear hw0
  refine (C0.out w0).mono ?_
  rintro e w1 ⟨rfl, hb1⟩
  have HC1 := Lib.hid (show W.heap.size < w1.heap.size ∧ w1.cell? ⟨W.heap.size, 0, none⟩ = some (.slice p n c) from ⟨Nat.lt_of_lt_of_le HC0.out.1 hb1.size, by rw [hb1.cell (p := ⟨W.heap.size, 0, none⟩) HC0.out.1]; exact HC0.out.2⟩)
  have HB1 := Lib.hid (HB0.out.trans (hb1.mono HB0.out.size))
  obtain ⟨q0, c0⟩ := HC1.out
  clear hb1 C0 HC0
  have CF := Lib.hid (few_any ls p c w1 (HS.out.below HB1.out) (by rw [HN.out]; exact hn))
  rw [HN.out] at CF
  go_wp2_with fail
  refine CF.out.mono ?_
  rintro e w2 ⟨bv, rfl, hbv, hb2⟩
  have HC2 := Lib.hid (show W.heap.size < w2.heap.size ∧ w2.cell? ⟨W.heap.size, 0, none⟩ = some (.slice p n c) from ⟨Nat.lt_of_lt_of_le HC1.out.1 hb2.size, by rw [hb2.cell (p := ⟨W.heap.size, 0, none⟩) HC1.out.1]; exact HC1.out.2⟩)
  have HB2 := Lib.hid (HB1.out.trans (hb2.mono HB1.out.size))
  rw [HN.out] at hbv
  clear hb2 CF HC1 q0 c0
  cases bv with
  | false =>
    clear hbv
    go_wp2_with fail
    go_ret
    exact ⟨rfl, HB2.out⟩
  | true =>
    have h60 := hbv rfl
    clear hbv
    by_cases h300 : 300 < k.size
    · have h300z : (300 : Int) < (k.size : Int) := by omega
      go_wp2_with fail
      go_ret
      exact ⟨rfl, HB2.out⟩
    · have h300z : decide ((300 : Int) < (k.size : Int)) = false := decide_eq_false (by omega)
      by_cases hm60 : 60 < m
      · have hm60z : (60 : Int) < (m : Int) := by omega
        go_wp2_with fail
        go_ret
        exact ⟨rfl, HB2.out⟩
      · have hm60z : decide ((60 : Int) < (m : Int)) = false := decide_eq_false (by omega)
        go_wp2_with fail
        go_loopg [7, 8] n (fun gg va vi wr => ∃ i : Nat, i ≤ n ∧ n - i ≤ gg ∧ vi = .int .i64 i ∧ Hid (Own wr w2.heap.size 3 .i64 va (backL n i)) ∧ Hid (Below w2.heap.size w2 wr))
        case atStart => exact ⟨0, by omega, by omega, rfl, Lib.hid (Own.nil _ _ _ _), Lib.hid (Below.refl _ _)⟩
        case round =>
          obtain ⟨i, hin, hgg, rfl, HA, HBr⟩ := hrel
          have HCr := Lib.hid (show W.heap.size < wr.heap.size ∧ wr.cell? ⟨W.heap.size, 0, none⟩ = some (.slice p n c) from ⟨Nat.lt_of_lt_of_le HC2.out.1 HBr.out.size, by rw [HBr.out.cell (p := ⟨W.heap.size, 0, none⟩) HC2.out.1]; exact HC2.out.2⟩)
          obtain ⟨q0, c0⟩ := HCr.out
          by_cases hlt : i < n
          · have hltz : (i : Int) < (n : Int) := by omega
            have hv : ((n : Int) - 1 - (i : Int)) = ((n - 1 - i : Nat) : Int) := by omega
            have HV := Lib.hid hv
            clear hv
            go_wp2_with (at_builtin; refine wpList_own_push rfl _ _ 37 rfl 3 .i64 8 Try.underlying37 info_int (by decide) w2.heap.size _ _ rfl (HA.out.alloc _) wr.heap.size 1 1 [(n : Int) - 1 - (i : Int)] rfl rfl ?newCells ?len ?below ?_)
            case newCells => intro j hj; obtain rfl : j = 0 := by omega
                             simp [go_sem]
            case len => rw [backL_len]; omega
            case below => have := HBr.out.size; simp; omega
            intro v' w' hown' hgr'
            have HB' := Lib.hid ((HBr.out.alloc HBr.out.size (.cells #[.int .i64 ((n : Int) - 1 - (i : Int))] 3)).grown hgr' (by have := HBr.out.size; simp; omega) (fun g hg => HA.out.lt g hg))
            rw [HV.out, ← backL_succ] at hown'
            have HA' := Lib.hid hown'
            clear hown' hgr' q0 c0 HCr
            have hsz := HB'.out.size
            have q0 : W.heap.size < w'.heap.size := Nat.lt_of_lt_of_le HC2.out.1 hsz
            go_wp2_with fail
            go_roundg (n - (i + 1))
            case measure => omega
            case rel => exact ⟨i + 1, by omega, by omega, by go_num, HA', HB'⟩
          · obtain rfl : i = n := by omega
            have hltz : ¬ (i : Int) < (i : Int) := by omega
            have hbr := backL_len i i
            obtain ⟨pa, ca, hva, _, hra⟩ := Own.row HA.out
            subst hva
            rw [hbr]
            have HRA := Lib.hid hra
            have HBw := Lib.hid (HB2.out.trans (HBr.out.mono HB2.out.size))
            have CF := Lib.hid (find_int (backL i i) pa ca 20 #[.pointer (some ⟨W.heap.size, 0, none⟩)] (fun _ _ => rfl) (fun j => ls[i - 1 - j]!) k wr hra (by rw [hbr]; exact hn) (fun w' j hb hj => by
              rw [hbr] at hj
              rw [backL_at i i j hj]
              exact finds1_any ls p c W.heap.size (i - 1 - j) w' (HS.out.below (HBw.out.trans (hb.mono HBw.out.size))) (by rw [HN.out, hb.cell (p := ⟨W.heap.size, 0, none⟩) q0]; exact c0) (Nat.lt_of_lt_of_le q0 hb.size) (by rw [HN.out]; omega)))
            rw [hbr] at CF
            obtain ⟨x, hx⟩ : ∃ x, idxL ((List.range i).map fun j => hasB ls[i - 1 - j]! k) = x := ⟨_, rfl⟩
            rw [hx] at CF
            have HX := Lib.hid hx
            have HBL := Lib.hid hbr
            clear hx hra HA hbr HBr
            go_wp2_with fail
            refine CF.out.mono ?_
            rintro e w3 ⟨rfl, hb3⟩
            have HC3 := Lib.hid (show W.heap.size < w3.heap.size ∧ w3.cell? ⟨W.heap.size, 0, none⟩ = some (.slice p i c) from ⟨Nat.lt_of_lt_of_le HCr.out.1 hb3.size, by rw [hb3.cell (p := ⟨W.heap.size, 0, none⟩) HCr.out.1]; exact HCr.out.2⟩)
            have HB3 := Lib.hid (HBw.out.trans (hb3.mono HBw.out.size))
            have HR3 := Lib.hid (HRA.out.below hb3)
            clear hb3 CF q0 c0 HCr HBw HRA
            go_wp2_with fail
            have HRH := Lib.hid (fun f t w => refHas_any f t k w)
            obtain ⟨wo, rfl⟩ : ∃ wo : World, wo = wr := ⟨_, rfl⟩
            go_loopg [10, 11] i (fun gg vw vi wr => ∃ (t : Nat) (want : Int), t ≤ i ∧ t ≤ gg ∧ vi = .int .i64 ((t : Int) - 1) ∧ vw = .int .i64 want ∧ Hid (WantAt (fun j => hasB ls[i - 1 - j]! k) i t want) ∧ Hid (Below w3.heap.size w3 wr))
            case atStart => exact ⟨i, -1, by omega, by omega, rfl, rfl, Lib.hid (Or.inl ⟨rfl, fun j h1 h2 => by omega⟩), Lib.hid (Below.refl _ _)⟩
            case round =>
              obtain ⟨t, want, hti, htg, rfl, rfl, HW, HBr⟩ := hrel
              have HCr := Lib.hid (show W.heap.size < wr.heap.size ∧ wr.cell? ⟨W.heap.size, 0, none⟩ = some (.slice p i c) from ⟨Nat.lt_of_lt_of_le HC3.out.1 HBr.out.size, by rw [HBr.out.cell (p := ⟨W.heap.size, 0, none⟩) HC3.out.1]; exact HC3.out.2⟩)
              by_cases h0 : t = 0
              · subst h0
                have hneg : ¬ (0 : Int) ≤ ((0 : Nat) : Int) - 1 := by omega
                have hxw := HW.out.all
                rw [HX.out] at hxw
                subst hxw
                have HB5 := Lib.hid (HB3.out.trans (HBr.out.mono HB3.out.size))
                have CF2 := Lib.hid (find_u8 own q cq 22 #[] (fun _ _ => rfl) (fun _ => ⟨⟨#[98]⟩, ⟨#[99]⟩⟩) k wr (HO.out.below HB5.out) (by rw [HM.out]; exact hm) (fun w' j _ _ => finds2_any (own.getD j 0) w'))
                rw [HM.out] at CF2
                have hyc := idx_const (hasB ⟨⟨#[98]⟩, ⟨#[99]⟩⟩ k) m
                have hh : hasB ⟨⟨#[98]⟩, ⟨#[99]⟩⟩ k = (!Op.bytesLess k.toList [98] && Op.bytesLess k.toList [99]) := by
                  have h9 : sem ⟨#[99]⟩ = false := by kernel_rfl
                  have t1 : (ByteArray.mk #[98]).toList = [98] := Lib.toList_data _
                  have t2 : (ByteArray.mk #[99]).toList = [99] := Lib.toList_data _
                  unfold hasB slt
                  simp only [h9, Bool.false_or, t1, t2]
                obtain ⟨y, hy⟩ : ∃ y, idxL ((List.range m).map fun _ => hasB ⟨⟨#[98]⟩, ⟨#[99]⟩⟩ k) = y := ⟨_, rfl⟩
                rw [hy] at CF2 hyc
                rw [hh] at hyc
                have HY := Lib.hid hyc
                clear hh hy hyc HW HBr
                go_wp2_with fail
                refine CF2.out.mono ?_
                rintro e w6 ⟨rfl, hb6⟩
                have HB6 := Lib.hid (HB5.out.trans (hb6.mono HB5.out.size))
                clear hb6 CF2
                go_wp2_with fail
                all_goals
                  go_ret
                  refine ⟨?_, HB6.out⟩
                  have hyc := HY.out
                  clear HY HX HB5 HB6 HB3 HR3 HS HO HC2 HC3 HCr
                  by_cases hm0 : 0 < m <;> simp_all
              · obtain ⟨u, rfl⟩ : ∃ u, t = u + 1 := ⟨t - 1, by omega⟩
                have hut : ((u + 1 : Nat) : Int) - 1 = (u : Int) := by omega
                have hu0 : (0 : Int) ≤ (u : Int) := by omega
                have hui : (u : Int) < (i : Int) := by omega
                rw [hut]
                clear hut
                obtain ⟨q0, c0⟩ := HCr.out
                obtain ⟨b1, o1, rfl, hb1, c1⟩ := row_cell HR3.out HBr.out (show u < (backL i i).length by rw [HBL.out]; omega)
                rw [backL_at i i u (by omega)] at c1
                obtain ⟨v, hv⟩ : ∃ v, i - 1 - u = v := ⟨_, rfl⟩
                rw [hv] at c1
                have hvi : v < i := by omega
                have hviz : (v : Int) < (i : Int) := by omega
                have hv0 : (0 : Int) ≤ (v : Int) := by omega
                obtain ⟨b2, o2, rfl, hb2, c2, c3⟩ := span_cell HS.out (HB3.out.trans (HBr.out.mono HB3.out.size)) (show v < ls.length by rw [HN.out]; exact hvi)
                obtain ⟨sv, hsv⟩ : ∃ sv, ls[v]! = sv := ⟨_, rfl⟩
                obtain ⟨f, t⟩ := sv
                rw [hsv] at c2 c3
                obtain ⟨r, hr⟩ : ∃ r, hasB ⟨f, t⟩ k = r := ⟨_, rfl⟩
                have HR := Lib.hid (show (fun j => hasB ls[i - 1 - j]! k) u = r by show hasB ls[i - 1 - u]! k = r; rw [hv, hsv]; exact hr)
                have CH := HRH.out f t
                rw [hr] at CH
                have hb1' : b1 < wr.heap.size := Nat.lt_of_lt_of_le hb1 HBr.out.size
                have hb2' : b2 < wr.heap.size := by have := HB3.out.size; have := HBr.out.size; omega
                have f0 := fun pw : BelowOf wr => pw.cell (a := ⟨W.heap.size, 0, none⟩) q0 c0
                have f1 := fun pw : BelowOf wr => pw.cell (a := ⟨b1, o1 + u, none⟩) hb1' c1
                have f2 := fun pw : BelowOf wr => pw.cell (a := ⟨b2, o2 + v * 2, none⟩) hb2' c2
                have f3 := fun pw : BelowOf wr => pw.cell (a := ⟨b2, o2 + v * 2 + 1, none⟩) hb2' c3
                have HH := Lib.hid (fun pw : BelowOf wr => Calls.below_of pw (CH pw.w'))
                clear c0 c1 c2 c3 CH hv hsv hr q0
                go_wp2_with fail
                refine wp_region_quiet_below (by assumption) (by kernel_rfl) ?_
                repeat (go_big_quiet_step (first | (go_at_call 10; with_reducible exact HH.out _)))
                refine wpQuiet_nil ?_
                intro wq hw'
                obtain ⟨⟨wz, hbq⟩, hw''⟩ := hw'
                obtain rfl : wq = wz := hw''
                have HBq := Lib.hid (HBr.out.trans (hbq.mono HBr.out.size))
                clear hbq f0 f1 f2 f3 HH
                cases r with
                | true =>
                  go_wp2_with fail
                  go_roundg u
                  case measure => omega
                  case rel => exact ⟨u, (u : Int), by omega, by omega, rfl, rfl, Lib.hid (WantAt.yes (by omega) HR.out), HBq⟩
                | false =>
                  go_wp2_with fail
                  go_roundg u
                  case measure => omega
                  case rel => exact ⟨u, want, by omega, by omega, rfl, rfl, Lib.hid (HW.out.no HR.out), HBq⟩
end Go.Proofs.Ytafmglnjheeajaa
