/-
  ScalarJoins: the walk: of two texts, one behind the other, the runes are those of both; bytes keep the order of runes.
-/
import Derived.Test.YtligebpjeolpmaaDoorScAwake
import Derived.Test.YtligebpjeolpmaaDoorScRefMay
import Derived.Test.YtligebpjeolpmaaDoorScOrder
import Derived.Laws.AppendOwnNone
import Derived.Laws.Concat
namespace Go.Proofs.YtligebpjeolpmaaDoor
open Go.RowKit Go.Gz

/-- an operation behind a guard that holds is walked as one without. -/
theorem wpList_open {P : Program} {w : World} {ops : Array Oper} {rest : List Oper} {o : Oper} {a : Act} {Q : Exit → Act → World → Prop}
    (hw : Region.wanted o (yielded ops a.tmps) = true) (h : wpList P ops Q ({ o with guard := none } :: rest) a w) : wpList P ops Q (o :: rest) a w := by
  unfold wpList at h ⊢
  rw [if_pos hw]
  rw [if_pos (by simp [Region.wanted])] at h
  cases o
  exact h

/-- append of a whole slice onto a row that the call owns. -/
theorem wpList_own_row {P : Program} {w : World} {ops : Array Oper} {rest : List Oper} {o : Oper} {a : Act} {Q : Exit → Act → World → Prop}
    (hg : o.guard = none) (s x : Operand) (t : TypeId) (hop : o.op = Op.call { callee := Callee.builtin Builtin.append, args := #[s, x], argTypes := #[t, t] })
    (e : TypeId) (k : IntKind) (bytes : Nat) (h1 : P.underlying t = some (.slice e)) (hinfo : (P.info? e).map (fun i => (i.zero, i.size, i.bytes)) = some (some (.int k 0), 1, bytes)) (hby : bytes ≤ 8)
    (B : Nat) (v : Value) (xs : List Int) (hs : a.eval s = v) (hown : Own w B e k v xs)
    (p : Option Addr) (c : Nat) (ys : List Int) (hx : a.eval x = .slice p ys.length c) (hrow : Row w k p ys) (hpc : p = none → c = 0)
    (hlen : xs.length + ys.length ≤ 1000000) (hB : B ≤ w.heap.size)
    (hK : ∀ v' w', Own w' B e k v' (xs ++ ys) → w.grownBy w' v.ownBlock → wpList P ops Q rest (a.put o.dst v') w') :
    wpList P ops Q (o :: rest) a w := by
  obtain ⟨i0, hi, hz0, hz1, hz2⟩ := info_parts hinfo
  have hys : p = none → ys = [] := fun hp => by
    rcases hrow with h | ⟨b, off, hp', _⟩
    · exact h
    · rw [hp] at hp'; cases hp'
  cases p with
  | none =>
    obtain rfl := hys rfl
    obtain rfl := hpc rfl
    refine wpList_append_own_none hg s x t hop B e i0 1 h1 hi v xs.length (xs.map (Value.int k)) hs hown hx ?_
    refine hK v w ?_ (World.grownBy.refl _ _)
    rw [List.append_nil]; exact hown
  | some ad =>
    refine wpList_append_own w hg s x t hop B e i0 (.int k 0) 1 bytes h1 hi hz0 hz1 hz2 rfl (by decide) v xs.length (xs.map (Value.int k)) hs hown ad ys.length c (ys.map (Value.int k)) hx (by simp) ?_ ?_ (by unfold maxLen; omega) ?_ hB ?_
    · intro j u hj
      obtain ⟨hj', rfl⟩ := List.getElem?_eq_some_iff.1 hj
      simp only [List.length_map] at hj'
      rcases hrow with h | ⟨b, off, hp', _, hc⟩
      · rw [h] at hj'; simp at hj'
      · cases hp'
        rw [Addr.add_lit, hc j hj']
        simp [List.getD, hj']
    · intro u hu
      obtain ⟨y, _, rfl⟩ := List.mem_map.1 hu
      rfl
    · have : (xs.length + ys.length) * bytes ≤ (xs.length + ys.length) * 8 := Nat.mul_le_mul_left _ hby
      omega
    · intro v' w' ho hgr _
      refine hK v' w' ?_ hgr
      unfold Own
      rw [List.length_append, List.map_append]
      exact ho
theorem own_empty (w : World) (B : Nat) (hB : B ≤ w.heap.size) : Own (w.alloc (.cells #[] 21)) B 21 .i32 (.slice (some ⟨w.heap.size, 0, none⟩) 0 0) [] :=
  World.ownsRow_made w #[] 0 hB (by unfold maxLen; omega) rfl

theorem ordL_prefix : ∀ (t u v : List Int), ordL (t ++ u) (t ++ v) = ordL u v
  | [], _, _ => rfl
  | x :: t, u, v => by
    rw [List.cons_append, List.cons_append, ordL, if_neg (by omega), if_neg (by omega)]
    exact ordL_prefix t u v
theorem ordL_split {a b : List Int} {i : Nat} (h : a.take i = b.take i) : ordL a b = ordL (a.drop i) (b.drop i) := by
  have ha : a = a.take i ++ a.drop i := (List.take_append_drop i a).symm
  have hb : b = a.take i ++ b.drop i := by rw [h]; exact (List.take_append_drop i b).symm
  conv => lhs; rw [ha, hb]
  exact ordL_prefix _ _ _

def JRel (W3 : World) (a b : List Int) (o iv : Value) (wr : World) : Prop := ∃ (i : Nat) (z : Int), iv = .int .i64 i ∧ o = .int .i64 z ∧ i ≤ a.length ∧ i ≤ b.length ∧
  ((z = 0 ∧ a.take i = b.take i) ∨ (z = ordL a b ∧ (z = 1 ∨ z = -1))) ∧ Below W3.heap.size W3 wr

set_option maxHeartbeats 16000000 in
theorem joins_walk (a : List Int) (pa : Option Addr) (ca : Nat) (b : List Int) (pb : Option Addr) (cb : Nat) (W : World) (hT : Lib.Utf8Tabs 1 2 W)
    (hp : Row W .i32 pa a) (hc : a.length ≤ ca) (hpa : pa = none → ca = 0) (hp2 : Row W .i32 pb b) (hc2 : b.length ≤ cb) (hpb : pb = none → cb = 0) :
    Calls Tryd.prog 6 #[.slice pa a.length ca, .slice pb b.length cb] W fun e w' => e = .returned (.bool true) ∧ Below W.heap.size W w' := by
  have HT := Lib.hid hT
  have HPa := Lib.hid hp
  have HPb := Lib.hid hp2
  have C0 := Lib.hid (awake_true W hT)
  clear hT hp hp2
  by_cases hbig : 500 < a.length
  · have hbig' : (500 : Int) < (a.length : Int) := by omega
    go_enter Tryd.func6, Tryd.ntmps6
    go_wp2_with fail
    refine C0.out.mono ?_
    rintro e w1 ⟨rfl, hb1⟩
    go_wp2
    go_ret
    exact ⟨rfl, hb1⟩
  have hsa : (a.length : Int) ≤ 500 := by omega
  by_cases hbig2 : 500 < b.length
  · have hbig' : (500 : Int) < (b.length : Int) := by omega
    go_enter Tryd.func6, Tryd.ntmps6
    go_wp2_with fail
    refine C0.out.mono ?_
    rintro e w1 ⟨rfl, hb1⟩
    go_wp2
    go_ret
    exact ⟨rfl, hb1⟩
  have hsb : (b.length : Int) ≤ 500 := by omega
  have hsa' : a.length ≤ 500 := by omega
  have hsb' : b.length ≤ 500 := by omega
  clear hbig hbig2
  by_cases hva : ∀ r ∈ a, V r
  · have C1 := Lib.hid fun w1 (hb : Below W.heap.size W w1) => write_ok a hva pa ca w1 (HPa.out.below hb) (by omega) hc
    by_cases hvb : ∀ r ∈ b, V r
    · have C2 := Lib.hid fun w1 (hb : Below W.heap.size W w1) => write_ok b hvb pb cb w1 (HPb.out.below hb) (by omega) hc2
      have hla := enc_le4 a
      have hlb := enc_le4 b
      have hvab : ∀ r ∈ a ++ b, V r := fun r hr => (List.mem_append.1 hr).elim (hva r) (hvb r)
      have C3 := Lib.hid fun w1 hT1 => read_ok (a ++ b) hvab ((⟨(encAll a).toArray⟩ : ByteArray) ++ ⟨(encAll b).toArray⟩) (by rw [encAll_append]; simp) w1 hT1 (by rw [ByteArray.size_append]; simp [ByteArray.size]; omega)
      have hcmp := cmp_enc a b hva hvb
      have C4 := Lib.hid fun w1 => compare_any (⟨(encAll a).toArray⟩ : ByteArray) ⟨(encAll b).toArray⟩ w1
      simp only [hcmp] at C4
      have HVa := Lib.hid hva; clear hva hcmp
      have HVb := Lib.hid hvb; clear hvb hvab
      go_enter Tryd.func6, Tryd.ntmps6
      go_wp2_with fail
      refine C0.out.mono ?_
      rintro e w1 ⟨rfl, hb1⟩
      go_wp2_with fail
      refine (C1.out w1 hb1).mono ?_
      rintro e w2 ⟨rfl, hb2⟩
      have hb02 := hb1.trans (hb2.mono hb1.size)
      go_wp2_with fail
      refine (C2.out w2 hb02).mono ?_
      rintro e w3 ⟨rfl, hb3⟩
      have hb03 := hb02.trans (hb3.mono hb02.size)
      clear hb1 hb2 hb3 hb02
      go_wp2_with fail
      refine (C3.out w3 (tabs_below HT.out hb03)).mono ?_
      rintro e w4 ⟨q, d, rfl, hd, hb4, hr⟩
      have HR := Lib.hid hr; clear hr
      have hb04 := hb03.trans (hb4.mono hb03.size)
      have hs4 := hb4.size
      clear hb4 hb03 C0 C1 C2 C3
      simp only [List.length_append]
      go_wp2_with fail
      go_loopw [11, 12] (fun o i wr => JRel w4 a b o i wr) (fun _ i _ => a.length - (intOf i).toNat)
      case atStart => exact ⟨0, 0, rfl, rfl, Nat.zero_le _, Nat.zero_le _, Or.inl ⟨rfl, rfl⟩, Below.refl _ _⟩
      case round =>
        obtain ⟨i, z, rfl, rfl, hia, hib, hz, hb⟩ := hrel
        have hb0r := hb04.trans (hb.mono hb04.size)
        rcases hz with ⟨rfl, htk⟩ | ⟨hz, hz1⟩
        · by_cases hA : i < a.length
          · by_cases hB : i < b.length
            · obtain ⟨ba, oa, rfl, hba, hca⟩ := row_cell HPa.out hb0r hA
              obtain ⟨bb, ob, rfl, hbb, hcb⟩ := row_cell HPb.out hb0r hB
              have hord := ordL_split htk
              have hda : a.drop i = a.getD i 0 :: a.drop (i + 1) := by rw [List.drop_eq_getElem_cons hA]; simp [List.getD, hA]
              have hdb : b.drop i = b.getD i 0 :: b.drop (i + 1) := by rw [List.drop_eq_getElem_cons hB]; simp [List.getD, hB]
              have htk2 : a.getD i 0 = b.getD i 0 → a.take (i + 1) = b.take (i + 1) := fun h => by rw [take_more (r := a.getD i 0) hda, take_more (r := b.getD i 0) hdb, htk, h]
              rw [hda, hdb, ordL] at hord
              clear hda hdb htk
              generalize a.getD i 0 = x at hca hord htk2
              generalize b.getD i 0 = y at hcb hord htk2
              have htk2' := Lib.hid htk2; clear htk2
              have hA' : (i : Int) < (a.length : Int) := by omega
              have hB' : (i : Int) < (b.length : Int) := by omega
              by_cases hxy : x < y
              · rw [if_pos hxy] at hord
                have HOrd := Lib.hid hord; clear hord
                go_wp2
                go_quiet (fail)
                go_wp2
                go_quiet (fail)
                go_wp2
                go_roundw
                case rel => exact ⟨i + 1, -1, by go_num, rfl, by omega, by omega, Or.inr ⟨HOrd.out.symm, Or.inr rfl⟩, below_drewN hb _⟩
                case measure => simp [intOf]; omega
              · rw [if_neg hxy] at hord
                by_cases hyx : y < x
                · rw [if_pos hyx] at hord
                  have HOrd := Lib.hid hord; clear hord
                  go_wp2
                  go_quiet (fail)
                  go_wp2
                  go_quiet (fail)
                  go_wp2
                  go_roundw
                  case rel => exact ⟨i + 1, 1, by go_num, rfl, by omega, by omega, Or.inr ⟨HOrd.out.symm, Or.inl rfl⟩, below_drewN hb _⟩
                  case measure => simp [intOf]; omega
                · clear hord
                  go_wp2
                  go_quiet (fail)
                  go_wp2
                  go_quiet (fail)
                  go_wp2
                  go_roundw
                  case rel => exact ⟨i + 1, 0, by go_num, rfl, by omega, by omega, Or.inl ⟨rfl, htk2'.out (by omega)⟩, below_drewN hb _⟩
                  case measure => simp [intOf]; omega
            · have hlt : ¬ (i : Int) < (b.length : Int) := by omega
              have hA' : (i : Int) < (a.length : Int) := by omega
              have hord : ordL a b = 1 := by
                have e1 : b.drop i = [] := List.drop_eq_nil_of_le (by omega)
                rw [ordL_split htk, e1, List.drop_eq_getElem_cons hA]
                rfl
              have HOrd := Lib.hid hord; clear hord htk
              have hne : ((a.length : Int) != (b.length : Int)) = true := by rw [bne_iff_ne]; omega
              have hnl : ¬ (a.length : Int) < (b.length : Int) := by omega
              have HPa2 := Lib.hid (HPa.out.below hb0r)
              have C4w := Lib.hid (show ∀ w1 : World, Calls Tryd.prog 14 #[.string ⟨(encAll a).toArray⟩, .string ⟨(encAll b).toArray⟩] w1 fun e w' => e = .returned (.int .i64 (1)) ∧ w' = w1 from fun w1 => by have := C4.out w1; rw [HOrd.out] at this; exact this)
              have HQ := Lib.hid (HR.out.below hb)
              have hszr := hb0r.size
              clear C4
              go_wp2_with (first
                | (at_builtin; refine wpList_open (by simp [Region.wanted, yielded]) ?_; refine wpList_own_row rfl _ _ 23 rfl 21 .i32 4 Tryd.underlying23 info_rune (by decide) wr.heap.size _ [] rfl (own_empty _ _ (Nat.le_refl _)) pa ca a rfl (HPa2.out.below ((Below.refl _ _).alloc (Nat.le_refl _) _)) hpa (by simp; omega) (by simp) ?_))
              intro v1 w5 hown1 hgrow1
              have hb5 : Below W.heap.size W w5 := (hb0r.alloc hszr _).grown hgrow1 (by simp; omega) (fun g hg => by simp [Value.ownBlock] at hg; omega)
              have hbr5 : Below wr.heap.size wr w5 := ((Below.refl _ _).alloc (Nat.le_refl _) _).grown hgrow1 (by simp) (fun g hg => by simp [Value.ownBlock] at hg; omega)
              have hg1 := hown1.lt
              have HO1 := Lib.hid hown1; clear hown1 hgrow1
              go_wp2_with (first
                | (at_builtin; refine wpList_open (by simp [Region.wanted, yielded]) ?_; refine wpList_own_row rfl _ _ 23 rfl 21 .i32 4 Tryd.underlying23 info_rune (by decide) wr.heap.size _ _ rfl HO1.out pb cb b rfl (HPb.out.below hb5) hpb (by first | omega | (simp; omega)) hbr5.size ?_))
              intro v2 w6 hown2 hgrow2
              have hb6 : Below W.heap.size W w6 := hb5.grown hgrow2 hb5.size (fun g hg => by have := hg1 g hg; omega)
              have hbr6 : Below wr.heap.size wr w6 := hbr5.grown hgrow2 hbr5.size hg1
              obtain ⟨p2, c2, rfl, _, hrow2⟩ := Own.row hown2
              have CS := Lib.hid (same_yes (a ++ b) q p2 d c2 w6 (by simp; omega) (HQ.out.below hbr6) hrow2)
              clear hown2 hgrow2 hrow2
              simp only [List.length_append] at CS ⊢
              go_wp2_with fail
              refine CS.out.mono ?_
              rintro e w7 ⟨rfl, hb7⟩
              go_wp2_with fail
              refine (C4w.out w7).mono ?_
              rintro e w8 ⟨rfl, rfl⟩
              go_wp2
              go_ret
              exact ⟨rfl, hb6.trans (hb7.mono hb6.size)⟩
          · have hlt : ¬ (i : Int) < (a.length : Int) := by omega
            by_cases hB : i < b.length
            · have hord : ordL a b = -1 := by
                have e1 : a.drop i = [] := List.drop_eq_nil_of_le (by omega)
                rw [ordL_split htk, e1, List.drop_eq_getElem_cons hB]
                rfl
              have HOrd := Lib.hid hord; clear hord htk
              have hne : ((a.length : Int) != (b.length : Int)) = true := by rw [bne_iff_ne]; omega
              have hnl : (a.length : Int) < (b.length : Int) := by omega
              have HPa2 := Lib.hid (HPa.out.below hb0r)
              have C4w := Lib.hid (show ∀ w1 : World, Calls Tryd.prog 14 #[.string ⟨(encAll a).toArray⟩, .string ⟨(encAll b).toArray⟩] w1 fun e w' => e = .returned (.int .i64 (-1)) ∧ w' = w1 from fun w1 => by have := C4.out w1; rw [HOrd.out] at this; exact this)
              have HQ := Lib.hid (HR.out.below hb)
              have hszr := hb0r.size
              clear C4
              go_wp2_with (first
                | (at_builtin; refine wpList_open (by simp [Region.wanted, yielded]) ?_; refine wpList_own_row rfl _ _ 23 rfl 21 .i32 4 Tryd.underlying23 info_rune (by decide) wr.heap.size _ [] rfl (own_empty _ _ (Nat.le_refl _)) pa ca a rfl (HPa2.out.below ((Below.refl _ _).alloc (Nat.le_refl _) _)) hpa (by simp; omega) (by simp) ?_))
              intro v1 w5 hown1 hgrow1
              have hb5 : Below W.heap.size W w5 := (hb0r.alloc hszr _).grown hgrow1 (by simp; omega) (fun g hg => by simp [Value.ownBlock] at hg; omega)
              have hbr5 : Below wr.heap.size wr w5 := ((Below.refl _ _).alloc (Nat.le_refl _) _).grown hgrow1 (by simp) (fun g hg => by simp [Value.ownBlock] at hg; omega)
              have hg1 := hown1.lt
              have HO1 := Lib.hid hown1; clear hown1 hgrow1
              go_wp2_with (first
                | (at_builtin; refine wpList_open (by simp [Region.wanted, yielded]) ?_; refine wpList_own_row rfl _ _ 23 rfl 21 .i32 4 Tryd.underlying23 info_rune (by decide) wr.heap.size _ _ rfl HO1.out pb cb b rfl (HPb.out.below hb5) hpb (by first | omega | (simp; omega)) hbr5.size ?_))
              intro v2 w6 hown2 hgrow2
              have hb6 : Below W.heap.size W w6 := hb5.grown hgrow2 hb5.size (fun g hg => by have := hg1 g hg; omega)
              have hbr6 : Below wr.heap.size wr w6 := hbr5.grown hgrow2 hbr5.size hg1
              obtain ⟨p2, c2, rfl, _, hrow2⟩ := Own.row hown2
              have CS := Lib.hid (same_yes (a ++ b) q p2 d c2 w6 (by simp; omega) (HQ.out.below hbr6) hrow2)
              clear hown2 hgrow2 hrow2
              simp only [List.length_append] at CS ⊢
              go_wp2_with fail
              refine CS.out.mono ?_
              rintro e w7 ⟨rfl, hb7⟩
              go_wp2_with fail
              refine (C4w.out w7).mono ?_
              rintro e w8 ⟨rfl, rfl⟩
              go_wp2
              go_ret
              exact ⟨rfl, hb6.trans (hb7.mono hb6.size)⟩
            · have hord : ordL a b = 0 := by
                have e1 : a.drop i = [] := List.drop_eq_nil_of_le (by omega)
                have e2 : b.drop i = [] := List.drop_eq_nil_of_le (by omega)
                rw [ordL_split htk, e1, e2]
                rfl
              have HOrd := Lib.hid hord; clear hord htk
              have hne : ((a.length : Int) != (b.length : Int)) = false := by rw [bne_eq_false_iff_eq]; omega
              have HPa2 := Lib.hid (HPa.out.below hb0r)
              have C4w := Lib.hid (show ∀ w1 : World, Calls Tryd.prog 14 #[.string ⟨(encAll a).toArray⟩, .string ⟨(encAll b).toArray⟩] w1 fun e w' => e = .returned (.int .i64 (0)) ∧ w' = w1 from fun w1 => by have := C4.out w1; rw [HOrd.out] at this; exact this)
              have HQ := Lib.hid (HR.out.below hb)
              have hszr := hb0r.size
              clear C4
              go_wp2_with (first
                | (at_builtin; refine wpList_open (by simp [Region.wanted, yielded]) ?_; refine wpList_own_row rfl _ _ 23 rfl 21 .i32 4 Tryd.underlying23 info_rune (by decide) wr.heap.size _ [] rfl (own_empty _ _ (Nat.le_refl _)) pa ca a rfl (HPa2.out.below ((Below.refl _ _).alloc (Nat.le_refl _) _)) hpa (by simp; omega) (by simp) ?_))
              intro v1 w5 hown1 hgrow1
              have hb5 : Below W.heap.size W w5 := (hb0r.alloc hszr _).grown hgrow1 (by simp; omega) (fun g hg => by simp [Value.ownBlock] at hg; omega)
              have hbr5 : Below wr.heap.size wr w5 := ((Below.refl _ _).alloc (Nat.le_refl _) _).grown hgrow1 (by simp) (fun g hg => by simp [Value.ownBlock] at hg; omega)
              have hg1 := hown1.lt
              have HO1 := Lib.hid hown1; clear hown1 hgrow1
              go_wp2_with (first
                | (at_builtin; refine wpList_open (by simp [Region.wanted, yielded]) ?_; refine wpList_own_row rfl _ _ 23 rfl 21 .i32 4 Tryd.underlying23 info_rune (by decide) wr.heap.size _ _ rfl HO1.out pb cb b rfl (HPb.out.below hb5) hpb (by first | omega | (simp; omega)) hbr5.size ?_))
              intro v2 w6 hown2 hgrow2
              have hb6 : Below W.heap.size W w6 := hb5.grown hgrow2 hb5.size (fun g hg => by have := hg1 g hg; omega)
              have hbr6 : Below wr.heap.size wr w6 := hbr5.grown hgrow2 hbr5.size hg1
              obtain ⟨p2, c2, rfl, _, hrow2⟩ := Own.row hown2
              have CS := Lib.hid (same_yes (a ++ b) q p2 d c2 w6 (by simp; omega) (HQ.out.below hbr6) hrow2)
              clear hown2 hgrow2 hrow2
              simp only [List.length_append] at CS ⊢
              go_wp2_with fail
              refine CS.out.mono ?_
              rintro e w7 ⟨rfl, hb7⟩
              go_wp2_with fail
              refine (C4w.out w7).mono ?_
              rintro e w8 ⟨rfl, rfl⟩
              go_wp2
              go_ret
              exact ⟨rfl, hb6.trans (hb7.mono hb6.size)⟩
        · have HOrd := Lib.hid hz.symm; clear hz
          rcases hz1 with rfl | rfl
          · have hxA : (i : Int) < (a.length : Int) ∨ ¬ (i : Int) < (a.length : Int) := by omega
            have hxB : (i : Int) < (b.length : Int) ∨ ¬ (i : Int) < (b.length : Int) := by omega
            rcases hxA with hxA | hxA
            · rcases hxB with hxB | hxB
              · skip
                have HPa2 := Lib.hid (HPa.out.below hb0r)
                have C4w := Lib.hid (show ∀ w1 : World, Calls Tryd.prog 14 #[.string ⟨(encAll a).toArray⟩, .string ⟨(encAll b).toArray⟩] w1 fun e w' => e = .returned (.int .i64 (1)) ∧ w' = w1 from fun w1 => by have := C4.out w1; rw [HOrd.out] at this; exact this)
                have HQ := Lib.hid (HR.out.below hb)
                have hszr := hb0r.size
                clear C4
                go_wp2_with (first
                  | (at_builtin; refine wpList_open (by simp [Region.wanted, yielded]) ?_; refine wpList_own_row rfl _ _ 23 rfl 21 .i32 4 Tryd.underlying23 info_rune (by decide) wr.heap.size _ [] rfl (own_empty _ _ (Nat.le_refl _)) pa ca a rfl (HPa2.out.below ((Below.refl _ _).alloc (Nat.le_refl _) _)) hpa (by simp; omega) (by simp) ?_))
                intro v1 w5 hown1 hgrow1
                have hb5 : Below W.heap.size W w5 := (hb0r.alloc hszr _).grown hgrow1 (by simp; omega) (fun g hg => by simp [Value.ownBlock] at hg; omega)
                have hbr5 : Below wr.heap.size wr w5 := ((Below.refl _ _).alloc (Nat.le_refl _) _).grown hgrow1 (by simp) (fun g hg => by simp [Value.ownBlock] at hg; omega)
                have hg1 := hown1.lt
                have HO1 := Lib.hid hown1; clear hown1 hgrow1
                go_wp2_with (first
                  | (at_builtin; refine wpList_open (by simp [Region.wanted, yielded]) ?_; refine wpList_own_row rfl _ _ 23 rfl 21 .i32 4 Tryd.underlying23 info_rune (by decide) wr.heap.size _ _ rfl HO1.out pb cb b rfl (HPb.out.below hb5) hpb (by first | omega | (simp; omega)) hbr5.size ?_))
                intro v2 w6 hown2 hgrow2
                have hb6 : Below W.heap.size W w6 := hb5.grown hgrow2 hb5.size (fun g hg => by have := hg1 g hg; omega)
                have hbr6 : Below wr.heap.size wr w6 := hbr5.grown hgrow2 hbr5.size hg1
                obtain ⟨p2, c2, rfl, _, hrow2⟩ := Own.row hown2
                have CS := Lib.hid (same_yes (a ++ b) q p2 d c2 w6 (by simp; omega) (HQ.out.below hbr6) hrow2)
                clear hown2 hgrow2 hrow2
                simp only [List.length_append] at CS ⊢
                go_wp2_with fail
                refine CS.out.mono ?_
                rintro e w7 ⟨rfl, hb7⟩
                go_wp2_with fail
                refine (C4w.out w7).mono ?_
                rintro e w8 ⟨rfl, rfl⟩
                go_wp2
                go_ret
                exact ⟨rfl, hb6.trans (hb7.mono hb6.size)⟩
              · skip
                have HPa2 := Lib.hid (HPa.out.below hb0r)
                have C4w := Lib.hid (show ∀ w1 : World, Calls Tryd.prog 14 #[.string ⟨(encAll a).toArray⟩, .string ⟨(encAll b).toArray⟩] w1 fun e w' => e = .returned (.int .i64 (1)) ∧ w' = w1 from fun w1 => by have := C4.out w1; rw [HOrd.out] at this; exact this)
                have HQ := Lib.hid (HR.out.below hb)
                have hszr := hb0r.size
                clear C4
                go_wp2_with (first
                  | (at_builtin; refine wpList_open (by simp [Region.wanted, yielded]) ?_; refine wpList_own_row rfl _ _ 23 rfl 21 .i32 4 Tryd.underlying23 info_rune (by decide) wr.heap.size _ [] rfl (own_empty _ _ (Nat.le_refl _)) pa ca a rfl (HPa2.out.below ((Below.refl _ _).alloc (Nat.le_refl _) _)) hpa (by simp; omega) (by simp) ?_))
                intro v1 w5 hown1 hgrow1
                have hb5 : Below W.heap.size W w5 := (hb0r.alloc hszr _).grown hgrow1 (by simp; omega) (fun g hg => by simp [Value.ownBlock] at hg; omega)
                have hbr5 : Below wr.heap.size wr w5 := ((Below.refl _ _).alloc (Nat.le_refl _) _).grown hgrow1 (by simp) (fun g hg => by simp [Value.ownBlock] at hg; omega)
                have hg1 := hown1.lt
                have HO1 := Lib.hid hown1; clear hown1 hgrow1
                go_wp2_with (first
                  | (at_builtin; refine wpList_open (by simp [Region.wanted, yielded]) ?_; refine wpList_own_row rfl _ _ 23 rfl 21 .i32 4 Tryd.underlying23 info_rune (by decide) wr.heap.size _ _ rfl HO1.out pb cb b rfl (HPb.out.below hb5) hpb (by first | omega | (simp; omega)) hbr5.size ?_))
                intro v2 w6 hown2 hgrow2
                have hb6 : Below W.heap.size W w6 := hb5.grown hgrow2 hb5.size (fun g hg => by have := hg1 g hg; omega)
                have hbr6 : Below wr.heap.size wr w6 := hbr5.grown hgrow2 hbr5.size hg1
                obtain ⟨p2, c2, rfl, _, hrow2⟩ := Own.row hown2
                have CS := Lib.hid (same_yes (a ++ b) q p2 d c2 w6 (by simp; omega) (HQ.out.below hbr6) hrow2)
                clear hown2 hgrow2 hrow2
                simp only [List.length_append] at CS ⊢
                go_wp2_with fail
                refine CS.out.mono ?_
                rintro e w7 ⟨rfl, hb7⟩
                go_wp2_with fail
                refine (C4w.out w7).mono ?_
                rintro e w8 ⟨rfl, rfl⟩
                go_wp2
                go_ret
                exact ⟨rfl, hb6.trans (hb7.mono hb6.size)⟩
            · skip
              have HPa2 := Lib.hid (HPa.out.below hb0r)
              have C4w := Lib.hid (show ∀ w1 : World, Calls Tryd.prog 14 #[.string ⟨(encAll a).toArray⟩, .string ⟨(encAll b).toArray⟩] w1 fun e w' => e = .returned (.int .i64 (1)) ∧ w' = w1 from fun w1 => by have := C4.out w1; rw [HOrd.out] at this; exact this)
              have HQ := Lib.hid (HR.out.below hb)
              have hszr := hb0r.size
              clear C4
              go_wp2_with (first
                | (at_builtin; refine wpList_open (by simp [Region.wanted, yielded]) ?_; refine wpList_own_row rfl _ _ 23 rfl 21 .i32 4 Tryd.underlying23 info_rune (by decide) wr.heap.size _ [] rfl (own_empty _ _ (Nat.le_refl _)) pa ca a rfl (HPa2.out.below ((Below.refl _ _).alloc (Nat.le_refl _) _)) hpa (by simp; omega) (by simp) ?_))
              intro v1 w5 hown1 hgrow1
              have hb5 : Below W.heap.size W w5 := (hb0r.alloc hszr _).grown hgrow1 (by simp; omega) (fun g hg => by simp [Value.ownBlock] at hg; omega)
              have hbr5 : Below wr.heap.size wr w5 := ((Below.refl _ _).alloc (Nat.le_refl _) _).grown hgrow1 (by simp) (fun g hg => by simp [Value.ownBlock] at hg; omega)
              have hg1 := hown1.lt
              have HO1 := Lib.hid hown1; clear hown1 hgrow1
              go_wp2_with (first
                | (at_builtin; refine wpList_open (by simp [Region.wanted, yielded]) ?_; refine wpList_own_row rfl _ _ 23 rfl 21 .i32 4 Tryd.underlying23 info_rune (by decide) wr.heap.size _ _ rfl HO1.out pb cb b rfl (HPb.out.below hb5) hpb (by first | omega | (simp; omega)) hbr5.size ?_))
              intro v2 w6 hown2 hgrow2
              have hb6 : Below W.heap.size W w6 := hb5.grown hgrow2 hb5.size (fun g hg => by have := hg1 g hg; omega)
              have hbr6 : Below wr.heap.size wr w6 := hbr5.grown hgrow2 hbr5.size hg1
              obtain ⟨p2, c2, rfl, _, hrow2⟩ := Own.row hown2
              have CS := Lib.hid (same_yes (a ++ b) q p2 d c2 w6 (by simp; omega) (HQ.out.below hbr6) hrow2)
              clear hown2 hgrow2 hrow2
              simp only [List.length_append] at CS ⊢
              go_wp2_with fail
              refine CS.out.mono ?_
              rintro e w7 ⟨rfl, hb7⟩
              go_wp2_with fail
              refine (C4w.out w7).mono ?_
              rintro e w8 ⟨rfl, rfl⟩
              go_wp2
              go_ret
              exact ⟨rfl, hb6.trans (hb7.mono hb6.size)⟩
          · have hxA : (i : Int) < (a.length : Int) ∨ ¬ (i : Int) < (a.length : Int) := by omega
            have hxB : (i : Int) < (b.length : Int) ∨ ¬ (i : Int) < (b.length : Int) := by omega
            rcases hxA with hxA | hxA
            · rcases hxB with hxB | hxB
              · skip
                have HPa2 := Lib.hid (HPa.out.below hb0r)
                have C4w := Lib.hid (show ∀ w1 : World, Calls Tryd.prog 14 #[.string ⟨(encAll a).toArray⟩, .string ⟨(encAll b).toArray⟩] w1 fun e w' => e = .returned (.int .i64 (-1)) ∧ w' = w1 from fun w1 => by have := C4.out w1; rw [HOrd.out] at this; exact this)
                have HQ := Lib.hid (HR.out.below hb)
                have hszr := hb0r.size
                clear C4
                go_wp2_with (first
                  | (at_builtin; refine wpList_open (by simp [Region.wanted, yielded]) ?_; refine wpList_own_row rfl _ _ 23 rfl 21 .i32 4 Tryd.underlying23 info_rune (by decide) wr.heap.size _ [] rfl (own_empty _ _ (Nat.le_refl _)) pa ca a rfl (HPa2.out.below ((Below.refl _ _).alloc (Nat.le_refl _) _)) hpa (by simp; omega) (by simp) ?_))
                intro v1 w5 hown1 hgrow1
                have hb5 : Below W.heap.size W w5 := (hb0r.alloc hszr _).grown hgrow1 (by simp; omega) (fun g hg => by simp [Value.ownBlock] at hg; omega)
                have hbr5 : Below wr.heap.size wr w5 := ((Below.refl _ _).alloc (Nat.le_refl _) _).grown hgrow1 (by simp) (fun g hg => by simp [Value.ownBlock] at hg; omega)
                have hg1 := hown1.lt
                have HO1 := Lib.hid hown1; clear hown1 hgrow1
                go_wp2_with (first
                  | (at_builtin; refine wpList_open (by simp [Region.wanted, yielded]) ?_; refine wpList_own_row rfl _ _ 23 rfl 21 .i32 4 Tryd.underlying23 info_rune (by decide) wr.heap.size _ _ rfl HO1.out pb cb b rfl (HPb.out.below hb5) hpb (by first | omega | (simp; omega)) hbr5.size ?_))
                intro v2 w6 hown2 hgrow2
                have hb6 : Below W.heap.size W w6 := hb5.grown hgrow2 hb5.size (fun g hg => by have := hg1 g hg; omega)
                have hbr6 : Below wr.heap.size wr w6 := hbr5.grown hgrow2 hbr5.size hg1
                obtain ⟨p2, c2, rfl, _, hrow2⟩ := Own.row hown2
                have CS := Lib.hid (same_yes (a ++ b) q p2 d c2 w6 (by simp; omega) (HQ.out.below hbr6) hrow2)
                clear hown2 hgrow2 hrow2
                simp only [List.length_append] at CS ⊢
                go_wp2_with fail
                refine CS.out.mono ?_
                rintro e w7 ⟨rfl, hb7⟩
                go_wp2_with fail
                refine (C4w.out w7).mono ?_
                rintro e w8 ⟨rfl, rfl⟩
                go_wp2
                go_ret
                exact ⟨rfl, hb6.trans (hb7.mono hb6.size)⟩
              · skip
                have HPa2 := Lib.hid (HPa.out.below hb0r)
                have C4w := Lib.hid (show ∀ w1 : World, Calls Tryd.prog 14 #[.string ⟨(encAll a).toArray⟩, .string ⟨(encAll b).toArray⟩] w1 fun e w' => e = .returned (.int .i64 (-1)) ∧ w' = w1 from fun w1 => by have := C4.out w1; rw [HOrd.out] at this; exact this)
                have HQ := Lib.hid (HR.out.below hb)
                have hszr := hb0r.size
                clear C4
                go_wp2_with (first
                  | (at_builtin; refine wpList_open (by simp [Region.wanted, yielded]) ?_; refine wpList_own_row rfl _ _ 23 rfl 21 .i32 4 Tryd.underlying23 info_rune (by decide) wr.heap.size _ [] rfl (own_empty _ _ (Nat.le_refl _)) pa ca a rfl (HPa2.out.below ((Below.refl _ _).alloc (Nat.le_refl _) _)) hpa (by simp; omega) (by simp) ?_))
                intro v1 w5 hown1 hgrow1
                have hb5 : Below W.heap.size W w5 := (hb0r.alloc hszr _).grown hgrow1 (by simp; omega) (fun g hg => by simp [Value.ownBlock] at hg; omega)
                have hbr5 : Below wr.heap.size wr w5 := ((Below.refl _ _).alloc (Nat.le_refl _) _).grown hgrow1 (by simp) (fun g hg => by simp [Value.ownBlock] at hg; omega)
                have hg1 := hown1.lt
                have HO1 := Lib.hid hown1; clear hown1 hgrow1
                go_wp2_with (first
                  | (at_builtin; refine wpList_open (by simp [Region.wanted, yielded]) ?_; refine wpList_own_row rfl _ _ 23 rfl 21 .i32 4 Tryd.underlying23 info_rune (by decide) wr.heap.size _ _ rfl HO1.out pb cb b rfl (HPb.out.below hb5) hpb (by first | omega | (simp; omega)) hbr5.size ?_))
                intro v2 w6 hown2 hgrow2
                have hb6 : Below W.heap.size W w6 := hb5.grown hgrow2 hb5.size (fun g hg => by have := hg1 g hg; omega)
                have hbr6 : Below wr.heap.size wr w6 := hbr5.grown hgrow2 hbr5.size hg1
                obtain ⟨p2, c2, rfl, _, hrow2⟩ := Own.row hown2
                have CS := Lib.hid (same_yes (a ++ b) q p2 d c2 w6 (by simp; omega) (HQ.out.below hbr6) hrow2)
                clear hown2 hgrow2 hrow2
                simp only [List.length_append] at CS ⊢
                go_wp2_with fail
                refine CS.out.mono ?_
                rintro e w7 ⟨rfl, hb7⟩
                go_wp2_with fail
                refine (C4w.out w7).mono ?_
                rintro e w8 ⟨rfl, rfl⟩
                go_wp2
                go_ret
                exact ⟨rfl, hb6.trans (hb7.mono hb6.size)⟩
            · skip
              have HPa2 := Lib.hid (HPa.out.below hb0r)
              have C4w := Lib.hid (show ∀ w1 : World, Calls Tryd.prog 14 #[.string ⟨(encAll a).toArray⟩, .string ⟨(encAll b).toArray⟩] w1 fun e w' => e = .returned (.int .i64 (-1)) ∧ w' = w1 from fun w1 => by have := C4.out w1; rw [HOrd.out] at this; exact this)
              have HQ := Lib.hid (HR.out.below hb)
              have hszr := hb0r.size
              clear C4
              go_wp2_with (first
                | (at_builtin; refine wpList_open (by simp [Region.wanted, yielded]) ?_; refine wpList_own_row rfl _ _ 23 rfl 21 .i32 4 Tryd.underlying23 info_rune (by decide) wr.heap.size _ [] rfl (own_empty _ _ (Nat.le_refl _)) pa ca a rfl (HPa2.out.below ((Below.refl _ _).alloc (Nat.le_refl _) _)) hpa (by simp; omega) (by simp) ?_))
              intro v1 w5 hown1 hgrow1
              have hb5 : Below W.heap.size W w5 := (hb0r.alloc hszr _).grown hgrow1 (by simp; omega) (fun g hg => by simp [Value.ownBlock] at hg; omega)
              have hbr5 : Below wr.heap.size wr w5 := ((Below.refl _ _).alloc (Nat.le_refl _) _).grown hgrow1 (by simp) (fun g hg => by simp [Value.ownBlock] at hg; omega)
              have hg1 := hown1.lt
              have HO1 := Lib.hid hown1; clear hown1 hgrow1
              go_wp2_with (first
                | (at_builtin; refine wpList_open (by simp [Region.wanted, yielded]) ?_; refine wpList_own_row rfl _ _ 23 rfl 21 .i32 4 Tryd.underlying23 info_rune (by decide) wr.heap.size _ _ rfl HO1.out pb cb b rfl (HPb.out.below hb5) hpb (by first | omega | (simp; omega)) hbr5.size ?_))
              intro v2 w6 hown2 hgrow2
              have hb6 : Below W.heap.size W w6 := hb5.grown hgrow2 hb5.size (fun g hg => by have := hg1 g hg; omega)
              have hbr6 : Below wr.heap.size wr w6 := hbr5.grown hgrow2 hbr5.size hg1
              obtain ⟨p2, c2, rfl, _, hrow2⟩ := Own.row hown2
              have CS := Lib.hid (same_yes (a ++ b) q p2 d c2 w6 (by simp; omega) (HQ.out.below hbr6) hrow2)
              clear hown2 hgrow2 hrow2
              simp only [List.length_append] at CS ⊢
              go_wp2_with fail
              refine CS.out.mono ?_
              rintro e w7 ⟨rfl, hb7⟩
              go_wp2_with fail
              refine (C4w.out w7).mono ?_
              rintro e w8 ⟨rfl, rfl⟩
              go_wp2
              go_ret
              exact ⟨rfl, hb6.trans (hb7.mono hb6.size)⟩
    · have C2 := Lib.hid fun w1 (hb : Below W.heap.size W w1) => write_bad b hvb pb cb w1 (HPb.out.below hb) (by omega) hc2
      clear hva hvb
      go_enter Tryd.func6, Tryd.ntmps6
      go_wp2_with fail
      refine C0.out.mono ?_
      rintro e w1 ⟨rfl, hb1⟩
      go_wp2_with fail
      refine (C1.out w1 hb1).mono ?_
      rintro e w2 ⟨rfl, hb2⟩
      have hb02 := hb1.trans (hb2.mono hb1.size)
      go_wp2_with fail
      refine (C2.out w2 hb02).mono ?_
      rintro e w3 ⟨rfl, hb3⟩
      go_wp2
      go_ret
      exact ⟨rfl, hb02.trans (hb3.mono hb02.size)⟩
  · have C1 := Lib.hid fun w1 (hb : Below W.heap.size W w1) => write_bad a hva pa ca w1 (HPa.out.below hb) (by omega) hc
    clear hva
    by_cases hvb : ∀ r ∈ b, V r
    · have C2 := Lib.hid fun w1 (hb : Below W.heap.size W w1) => write_ok b hvb pb cb w1 (HPb.out.below hb) (by omega) hc2
      clear hvb
      go_enter Tryd.func6, Tryd.ntmps6
      go_wp2_with fail
      refine C0.out.mono ?_
      rintro e w1 ⟨rfl, hb1⟩
      go_wp2_with fail
      refine (C1.out w1 hb1).mono ?_
      rintro e w2 ⟨rfl, hb2⟩
      have hb02 := hb1.trans (hb2.mono hb1.size)
      go_wp2_with fail
      refine (C2.out w2 hb02).mono ?_
      rintro e w3 ⟨rfl, hb3⟩
      go_wp2
      go_ret
      exact ⟨rfl, hb02.trans (hb3.mono hb02.size)⟩
    · have C2 := Lib.hid fun w1 (hb : Below W.heap.size W w1) => write_bad b hvb pb cb w1 (HPb.out.below hb) (by omega) hc2
      clear hvb
      go_enter Tryd.func6, Tryd.ntmps6
      go_wp2_with fail
      refine C0.out.mono ?_
      rintro e w1 ⟨rfl, hb1⟩
      go_wp2_with fail
      refine (C1.out w1 hb1).mono ?_
      rintro e w2 ⟨rfl, hb2⟩
      have hb02 := hb1.trans (hb2.mono hb1.size)
      go_wp2_with fail
      refine (C2.out w2 hb02).mono ?_
      rintro e w3 ⟨rfl, hb3⟩
      go_wp2
      go_ret
      exact ⟨rfl, hb02.trans (hb3.mono hb02.size)⟩
end Go.Proofs.YtligebpjeolpmaaDoor
