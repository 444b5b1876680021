/-
  Several texts in one: AtPrM, NtVal, OnConv, EntK.
-/
import Derived.Test.YtfadpiipigkocaaMg17
import Derived.Test.YtfadpiipigkocaaNtBare
import Derived.Deep.WholeRow
import Derived.Deep.MidRow
import Derived.Test.YtfadpiipigkocaaMg08
import Derived.Deep.RegionLaw
import Derived.LoopTactic
import Derived.Deep.CutRange
import Derived.Test.YtfadpiipigkocaaMg09
namespace Go.Proofs.Ytfadpiipigkocaa
open Go.RowKit Go.Gz

theorem from_any (a b c : Int) (w : World) : Calls Try.prog 67 #[.int .i64 a, .int .i64 b, .int .i64 c] w fun e w' => e = .returned (.bool (decide (a ≤ b ∧ b ≤ c))) ∧ Below w.heap.size w w' := by
  go_enter Try.func67, Try.ntmps67
  go_wp2_with fail
  all_goals
    go_ret
    refine ⟨?_, (Below.refl _ _)⟩
    first | (simp_all; done) | (simp_all; omega)

set_option maxHeartbeats 4000000 in
theorem first_any (m : Int) (w : World) : Calls Try.prog 9 #[.int .i64 m] w fun e w' => ∃ p c, e = .returned (.agg #[.int .i64 1, .slice p 1 c]) ∧ RowK KS w' p [⟨⟨ByteArray.empty, ByteArray.empty⟩, m, 1⟩] ∧ TyP w' p 70 ∧ Below w.heap.size w w' := by
  go_enter Try.func9, Try.ntmps9
  go_wp2_with fail
  refine bodyPost_ret (v := .agg #[.int .i64 1, .slice (some ⟨w.heap.size + 1, 0, none⟩) 1 1]) (by simp [results, Try.results9, go_sem]) rfl ?_
  have hb : ∀ w1 : World, w1.heap.size = w.heap.size + 1 → (w1.alloc (.cells #[.string ⟨#[]⟩, .string ⟨#[]⟩, .int .i64 m, .int .i64 1] 70)).heap[w.heap.size + 1]? = some (.cells #[.string ⟨#[]⟩, .string ⟨#[]⟩, .int .i64 m, .int .i64 1] 70 (0, 0)) := fun w1 h => by rw [← h]; exact alloc_at _ _
  have h1 := hb (w.alloc (.cells #[.int .i64 1, .slice (some ⟨w.heap.size + 1, 0, none⟩) 1 1] 41)) (by simp)
  refine ⟨_, _, rfl, RowK.block KS (L := [⟨⟨ByteArray.empty, ByteArray.empty⟩, m, 1⟩]) h1, fun a ha => ?_, ((Below.refl _ _).alloc (Nat.le_refl _) _).alloc (by simp) _⟩
  injection ha with ha
  subst ha
  exact ⟨_, _, h1⟩

set_option maxHeartbeats 8000000 in
set_option maxRecDepth 100000 in
theorem may_any (ep : Int) (L : List Sd) (p : Option Addr) (ca : Nat) (nodes : Int) (w : World) (hp : RowK KS w p L) (hL : L.length ≤ 1000000) :
    Calls Try.prog 36 #[.agg #[.int .i64 ep, .slice p L.length ca], .int .i64 nodes] w fun e w' => e = .returned (.bool (mayAB nodes ep L)) ∧ Below w.heap.size w w' := by
  obtain ⟨n, hN⟩ : ∃ n, L.length = n := ⟨_, rfl⟩
  have HN := Lib.hid hN
  have HMY := Lib.hid (show MayA nodes ep L → (1 ≤ nodes ∧ nodes ≤ 5) ∧ (1 ≤ n ∧ n ≤ 12) ∧ 1 ≤ ep ∧ (∀ x ∈ L, okSd nodes ep x) ∧ wholeB (L.map Sd.sp) = true from fun h => ⟨h.nd, by rw [← hN]; exact h.ln, h.ep1, h.sh, h.wh⟩)
  have HMK := Lib.hid (show (1 ≤ nodes ∧ nodes ≤ 5) → (1 ≤ n ∧ n ≤ 12) → (∀ x ∈ L, okSd nodes ep x) → mayAB nodes ep L = wholeB (L.map Sd.sp) from fun h1 h2 h4 => by
    have h3 : 1 ≤ ep := by
      have h5 := h4 _ (get_mem (L := L) (i := 0) (by omega))
      have := h5.2.2.1
      have := h5.2.2.2
      omega
    cases hw : wholeB (L.map Sd.sp) with
    | true => exact (mayAB_iff _ _ _).2 ⟨h1, by rw [hN]; exact h2, h3, h4, hw⟩
    | false => exact mayAB_no fun h => by have := h.wh; rw [hw] at this; cases this)
  obtain ⟨w0, hw0⟩ : ∃ w0, w.alloc (.cells #[.int .i64 ep, .slice p n ca] 41) = w0 := ⟨_, rfl⟩
  have HB0 := Lib.hid (show Below w.heap.size w w0 from hw0 ▸ below_alloc _ _)
  have HBX := Lib.hid (show BoxA w0 w.heap.size ep (.slice p n ca) from hw0 ▸ BoxA.new w _ _ _)
  have HR := Lib.hid (hp.below HB0.out)
  have CL := Lib.hid (show ∀ w1, Below w0.heap.size w0 w1 → Calls Try.prog 69 #[.slice p L.length ca, .func (.func 70) #[] #[]] w1 (RetK KP w1 29 (L.map Sd.sp)) from fun w1 h => list_sp L p ca w1 (HR.out.below h) hL)
  rw [hN] at hL CL ⊢
  have HBad := Lib.hid (show ¬ MayA nodes ep L → ∀ w', Below w0.heap.size w0 w' → (Ending.returned (Value.bool false) = .returned (.bool (mayAB nodes ep L)) ∧ Below w.heap.size w w') from fun h w' hb => ⟨by rw [mayAB_no h], HB0.out.trans (hb.mono HB0.out.size)⟩)
  have HW0 := Lib.hid hw0
  have CF := Lib.hid from_any
  obtain ⟨_, x0, x1⟩ := HBX.out
  clear hN hp hw0
  go_enter Try.func36, Try.ntmps36
  go_wp2_with fail
  rw [HW0.out]
  refine (CF.out _ _ _ _).mono ?_
  rintro e w1 ⟨rfl, hb1⟩
  obtain ⟨_, x0, x1⟩ := HBX.out.below hb1
  have HB1 := Lib.hid hb1
  clear hb1
  by_cases hn : 1 ≤ nodes ∧ nodes ≤ 5
  · have hd : decide (1 ≤ nodes ∧ nodes ≤ 5) = true := decide_eq_true hn
    rw [hd]
    go_wp2_with fail
    refine (CF.out _ _ _ _).mono ?_
    rintro e w2 ⟨rfl, hb2⟩
    have HB2 := Lib.hid (HB1.out.trans (hb2.mono HB1.out.size))
    clear hb2 x0 x1
    obtain ⟨_, x0, x1⟩ := HBX.out.below HB2.out
    by_cases hl : (1 : Int) ≤ (n : Int) ∧ (n : Int) ≤ 12
    · have hd : decide ((1 : Int) ≤ (n : Int) ∧ (n : Int) ≤ 12) = true := decide_eq_true hl
      rw [hd]
      go_wp2_with fail
      clear x0 x1
      go_loopw [20] (fun i wr => ∃ k : Nat, i = .int .i64 k ∧ k ≤ n ∧ Hid (Below w0.heap.size w0 wr) ∧ Hid (∀ x ∈ L.take k, okSd nodes ep x)) (fun i _ => n - (RowKit.intOf i).toNat)
      case atStart => exact ⟨0, rfl, Nat.zero_le _, HB2, Lib.hid (fun x hx => by simp at hx)⟩
      case round =>
        obtain ⟨k, rfl, hkn, BW, A⟩ := hrel
        obtain ⟨hkb, x0, x1⟩ := HBX.out.below BW.out
        rcases Nat.lt_or_ge k n with hk | hk
        · have hkz : (k : Int) < (n : Int) := by omega
          have hklt : k < L.length := by rw [HN.out]; exact hk
          obtain ⟨e, he⟩ : ∃ e, L.getD k default = e := ⟨_, rfl⟩
          obtain ⟨pb, po, rfl, hpb, hcell⟩ := HR.out.cells BW.out hklt
          rw [he] at hcell
          have HMem := Lib.hid (show e ∈ L by rw [← he]; exact get_mem hklt)
          have HTK1 := Lib.hid (show L.take (k + 1) = L.take k ++ [e] by
            rw [List.take_succ_eq_append_getElem hklt, ← he]
            simp [List.getD, hklt])
          obtain ⟨⟨ef, et⟩, en, ee⟩ := e
          have z0 := hcell 0 (by decide)
          have z1 := hcell 1 (by decide)
          have z2 := hcell 2 (by decide)
          have z3 := hcell 3 (by decide)
          simp only [KS, Nat.add_zero] at z0 z1 z2 z3
          clear hcell he
          obtain ⟨w3, hw3⟩ : ∃ w3, wr.alloc (.cells #[.string ef, .string et, .int .i64 en, .int .i64 ee] 70) = w3 := ⟨_, rfl⟩
          have hb3 : Below wr.heap.size wr w3 := hw3 ▸ below_alloc _ _
          have HB3 := Lib.hid (BW.out.trans (hb3.mono BW.out.size))
          have HV3 := Lib.hid (show w3.heap[wr.heap.size]? = some (.cells #[.string ef, .string et, .int .i64 en, .int .i64 ee] 70 (0, 0)) from hw3 ▸ alloc_at wr _)
          have HBd := Lib.hid (show ¬ okSd nodes ep ⟨⟨ef, et⟩, en, ee⟩ → ∀ w', Below w3.heap.size w3 w' → (Ending.returned (Value.bool false) = .returned (.bool (mayAB nodes ep L)) ∧ Below w.heap.size w w') from fun h w' hb => HBad.out (fun hm => h ((HMY.out hm).2.2.2.1 _ HMem.out)) w' (HB3.out.trans (hb.mono HB3.out.size)))
          have HW3 := Lib.hid hw3
          clear hw3 hb3
          go_wp2_with fail
          rw [HW3.out]
          refine (CF.out _ _ _ w3).mono ?_
          rintro e w4 ⟨rfl, hb4⟩
          have HB4 := Lib.hid hb4
          have hv4 := (hb4.block wr.heap.size (Array.getElem?_eq_some_iff.1 HV3.out).1).trans HV3.out
          have y3 : w4.cell? ⟨wr.heap.size, 3, none⟩ = some (.int .i64 ee) := by simp [World.cell?, hv4]
          clear x0 x1
          obtain ⟨_, x0, x1⟩ := HBX.out.below (HB3.out.trans (hb4.mono HB3.out.size))
          clear hb4 hv4
          by_cases h1 : 1 ≤ en ∧ en ≤ nodes
          · have hd1 : decide (1 ≤ en ∧ en ≤ nodes) = true := decide_eq_true h1
            rw [hd1]
            go_wp2_with fail
            refine (CF.out _ _ _ w4).mono ?_
            rintro e w5 ⟨rfl, hb5⟩
            have HB5 := Lib.hid (HB4.out.trans (hb5.mono HB4.out.size))
            clear hb5
            by_cases h2 : 1 ≤ ee ∧ ee ≤ ep
            · have hd2 : decide (1 ≤ ee ∧ ee ≤ ep) = true := decide_eq_true h2
              have HBn := Lib.hid (HB3.out.trans (HB5.out.mono HB3.out.size))
              have HAn := Lib.hid (show ∀ x ∈ L.take (k + 1), okSd nodes ep x from fun x hx => by
                rw [HTK1.out] at hx
                rcases List.mem_append.1 hx with hx | hx
                · exact A.out x hx
                · simp only [List.mem_cons, List.not_mem_nil, or_false] at hx
                  subst hx
                  exact ⟨h1.1, h1.2, h2.1, h2.2⟩)
              rw [hd2]
              clear h1 h2 hd1 hd2 hl hn
              go_wp2_with fail
              exact ⟨⟨k + 1, by go_num, hk, HBn, HAn⟩, by simp [RowKit.intOf]; omega⟩
            · have hd2 : decide (1 ≤ ee ∧ ee ≤ ep) = false := decide_eq_false h2
              have HQ := Lib.hid (HBd.out (fun h => h2 ⟨h.2.2.1, h.2.2.2⟩) w5 HB5.out)
              rw [hd2]
              clear h1 h2 hd1 hd2 hl hn
              go_wp2_with fail
              go_ret
              exact HQ.out
          · have hd1 : decide (1 ≤ en ∧ en ≤ nodes) = false := decide_eq_false h1
            have HQ := Lib.hid (HBd.out (fun h => h1 ⟨h.1, h.2.1⟩) w4 HB4.out)
            rw [hd1]
            clear h1 hd1 hl hn
            go_wp2_with fail
            go_ret
            exact HQ.out
        · have hkz : ¬ (k : Int) < (n : Int) := by omega
          obtain rfl : k = n := by omega
          have HQ := Lib.hid (show mayAB nodes ep L = wholeB (L.map Sd.sp) from HMK.out hn ⟨by omega, by omega⟩ (fun x hx => A.out x (by rw [List.take_of_length_le (by rw [HN.out]; exact Nat.le_refl _)]; exact hx)))
          have CLw := Lib.hid (CL.out wr BW.out)
          clear hl hn hd
          go_wp2_with fail
          refine CLw.out.mono ?_
          rintro e w3 ⟨v3, rfl, hown3, hb3⟩
          obtain ⟨q3, c3, hv3, _, _, hr3, _⟩ := hown3.row
          have hlm : (L.map Sd.sp).length = k := by rw [List.length_map, HN.out]
          have CW := Lib.hid (whole_any (L.map Sd.sp) q3 c3 w3 (spans_of hr3) (by rw [hlm]; omega))
          rw [hlm] at CW hv3
          subst hv3
          have HB3 := Lib.hid (BW.out.trans (hb3.mono BW.out.size))
          clear hown3 hr3 hb3 hlm
          go_wp2_with fail
          refine CW.out.mono ?_
          rintro e w4 ⟨rfl, hb4⟩
          have H4 := Lib.hid (HB0.out.trans ((HB3.out.trans (hb4.mono HB3.out.size)).mono HB0.out.size))
          clear hb4
          go_wp2_with fail
          go_ret
          exact ⟨by rw [HQ.out]; rfl, H4.out⟩
    · have hd : decide ((1 : Int) ≤ (n : Int) ∧ (n : Int) ≤ 12) = false := decide_eq_false hl
      have HQ := Lib.hid (HBad.out (fun h => hl (by have := (HMY.out h).2.1; omega)) w2 HB2.out)
      rw [hd]
      clear hd hl hn
      go_wp2_with fail
      go_ret
      exact HQ.out
  · have hd : decide (1 ≤ nodes ∧ nodes ≤ 5) = false := decide_eq_false hn
    have HQ := Lib.hid (HBad.out (fun h => hn (HMY.out h).1) w1 HB1.out)
    rw [hd]
    clear hd hn
    go_wp2_with fail
    go_ret
    exact HQ.out
end Go.Proofs.Ytfadpiipigkocaa
namespace Go.Proofs.Ytfadpiipigkocaa
open Go.RowKit Go.Gz

theorem info_note : (Try.prog.info? 43).map (·.size) = some 27 := by kernel_rfl
theorem nt_one (n : NtL) (P : NtP) : (ntList n P).toArray.all (·.oneCell') = true := by
  simp [ntList, Value.oneCell']
/-- what is left of a note beside what its kind has; none: it is of no kind, or its atlas may not be. -/
noncomputable def fitsB (n : NtL) : Bool :=
  if n.kd = 1 then bareB { n with ask := askZ }
  else if n.kd = 2 then bareB { n with rep := repZ }
  else if n.kd = 3 then bareB n
  else if n.kd = 5 then bareB { n with tk := 0 }
  else if n.kd = 6 then mayAB 5 n.ae n.sh && bareB { n with tk := 0, ae := 0, sh := [] }
  else if n.kd = 4 then mayAB 5 n.ae n.sh && bareB { n with ae := 0, sh := [] }
  else if n.kd = 8 ∨ n.kd = 9 then bareB { n with ls := [], la := [], sf := [], st := [], ep := 0 }
  else if n.kd = 7 ∨ n.kd = 10 ∨ n.kd = 11 ∨ n.kd = 12 then bareB { n with sf := [], st := [], ep := 0 }
  else false
/-- the cells of a note of nothing. -/
abbrev noteZ : Array Value := #[.int .i64 0, .int .i64 0, .int .i64 0, .int .i64 0, .int .i64 0, .int .i64 0, .int .i64 0, .int .i64 0, .string ⟨#[]⟩, .string ⟨#[]⟩, .string ⟨#[]⟩, .string ⟨#[]⟩, .int .i64 0, .int .i64 0, .int .i64 0, .int .i64 0, .bool false, .string ⟨#[]⟩, .slice none 0 0, .string ⟨#[]⟩, .bool false, .string ⟨#[]⟩, .string ⟨#[]⟩, .slice none 0 0, .slice none 0 0, .int .i64 0, .slice none 0 0]
/-- a row loaded behind a guard that holds. -/
theorem wpList_load_rowW {P : Program} {ops : Array Oper} {rest : List Oper} {o : Oper} {a : Act} {w : World} {Q : Exit → Act → World → Prop} (hw : Region.wanted o (yielded ops a.tmps) = true) (ty : TypeId) (x : Operand) (ho : o.op = .load ty x)
    (g : Nat) (hx : a.eval x = .pointer (some ⟨g, 0, none⟩)) (t : TypeId) (cs : Array Value) (fr : Nat × Nat) (d : TypeDesc) (hg : w.heap[g]? = some (.cells cs t fr))
    (hu : P.underlying ty = some d) (hd : (match d with | .struct _ | .array _ _ => true | _ => false) = true) (hi : (P.info? ty).map (·.size) = some cs.size)
    (h : wpList P ops Q rest (a.put o.dst (.agg cs)) w) : wpList P ops Q (o :: rest) a w :=
  wpList_open hw (wpList_load_row (o := { o with guard := none }) rfl ty x ho g hx t cs fr d hg hu hd hi h)
/-- a note stored into a new block. -/
theorem note_store (W0 : World) (c : Array Value) (g : Nat) (hg : W0.heap.size = g) (hc : c.size = 27) : (W0.alloc (.cells noteZ 43)).heap[g]? = some (.cells noteZ 43 (0, 0)) ∧ noteZ.size = c.size ∧ (W0.alloc (.cells noteZ 43)).setRow g c = W0.alloc (.cells c 43) := by
  subst hg
  exact ⟨new_block _ _ _, by rw [hc]; rfl, World.setRow_alloc_new _ _ _ _⟩
end Go.Proofs.Ytfadpiipigkocaa
namespace Go.Proofs.Ytfadpiipigkocaa
open Go.RowKit Go.Gz

structure CvI (w : World) (t : TypeId) (X : List Ent) (k : Nat) (v : Value) (wr : World) : Prop where
  own : OwnE wr w.heap.size t v (X.take k)
  bl : Below w.heap.size w wr
/-- what is answered: the same entries. -/
def RetCv (w : World) (t : TypeId) (X : List Ent) (e : Ending) (w' : World) : Prop := ∃ v, e = .returned v ∧ OwnE w' w.heap.size t v X ∧ Below w.heap.size w w'

set_option maxHeartbeats 4000000 in
set_option maxRecDepth 100000 in
theorem back_any (w : World) (X : List Ent) (p : Option Addr) (ca : Nat) (hp : RowE w p X) (hX : X.length ≤ 2000) :
    Calls Try.prog 27 #[.slice p X.length ca] w (RetCv w 66 X) := by
  obtain ⟨n, hN⟩ : ∃ n, X.length = n := ⟨_, rfl⟩
  have HN := Lib.hid hN
  have HR := Lib.hid hp
  have hnb : (n : Int) ≤ 2000 := by omega
  have HF := Lib.hid (show ∀ v w', CvI w 66 X n v w' → RetCv w 66 X (.returned v) w' from fun v w' h => ⟨v, rfl, by
    have := h.own
    rwa [List.take_of_length_le (by omega)] at this, h.bl⟩)
  rw [hN]
  clear hN hp hX
  go_enter Try.func27, Try.ntmps27
  go_wp2_with fail
  go_loopw [3, 4] (fun v i wr => ∃ k : Nat, i = .int .i64 k ∧ k ≤ n ∧ Hid (CvI w 66 X k v wr)) (fun _ i _ => n - (RowKit.intOf i).toNat)
  case atStart => exact ⟨0, rfl, Nat.zero_le _, Lib.hid ⟨OwnE.nil _ _ _, Below.refl _ _⟩⟩
  case round =>
    obtain ⟨k, rfl, hkn, HI⟩ := hrel
    rcases Nat.lt_or_ge k n with hk | hk
    · have hkz : (k : Int) < (n : Int) := by omega
      have hklt : k < X.length := by rw [HN.out]; exact hk
      obtain ⟨e, he⟩ : ∃ e, X.getD k default = e := ⟨_, rfl⟩
      obtain ⟨pb, po, rfl, hpb, hcell⟩ := ent_cells HR.out HI.out.bl hklt
      rw [he] at hcell
      have HTK := Lib.hid (show X.take (k + 1) = X.take k ++ [e] by
        rw [List.take_succ_eq_append_getElem hklt, ← he]
        simp [List.getD, hklt])
      have HLK := Lib.hid (show (X.take k).length = k by rw [List.length_take]; omega)
      obtain ⟨E, hE⟩ : ∃ E, e = E := ⟨_, rfl⟩
      rw [hE] at HTK
      obtain ⟨es, er, ep, ek⟩ := e
      have z0 := hcell 0 (by decide)
      have z1 := hcell 1 (by decide)
      have z2 := hcell 2 (by decide)
      have z3 := hcell 3 (by decide)
      have z4 := hcell 4 (by decide)
      have z5 := hcell 5 (by decide)
      have z6 := hcell 6 (by decide)
      have z7 := hcell 7 (by decide)
      have z8 := hcell 8 (by decide)
      simp only [Ent.list, Nat.add_zero] at z0 z1 z2 z3 z4 z5 z6 z7 z8
      have HON := Lib.hid (show ∀ w3 : World, RowE (w3.alloc (.cells #[.int .i64 es, .int .i64 er.c, .int .i64 er.s, .int .i64 er.e, .bool er.fd, .string (strB er.v), .slice ep er.ls.length ek, .string (strB er.nx), .bool er.mr] 66)) (some ⟨w3.heap.size, 0, none⟩) [E] from fun w3 => hE ▸ one_ent (new_block _ _ _))
      clear hcell he hE
      obtain ⟨yc, yrs, ye, yf, yv, yls, yn, ym⟩ := er
      simp only at z0 z1 z2 z3 z4 z5 z6 z7 z8 HON
      generalize strB yv = sv at z5 HON
      generalize strB yn = sx at z7 HON
      generalize yls.length = m at z6 HON
      have hpos : (0 : Int) ≤ (k : Int) := by omega
      go_upto_region 5 with fail
      go_region_law (refine step_app_ents ent_ref rfl _ _ rfl (by simp [Act.eval]) (HI.out.own.drewN 1 |>.alloc _) (some ⟨wr.heap.size, 0, none⟩) 1 [E] (by simp [Act.eval]) (HON.out wr.drew) (fun h => by cases h) (by have := HLK.out; simp only [List.length_cons, List.length_nil]; omega) (by have := HI.out.bl.size; simp; omega) ?_; intro v4 w4 hown4 hgrow4 hat4)
      all_goals
        have HQ := Lib.hid (show CvI w 66 X (k + 1) v4 w4 from ⟨by rw [HTK.out]; exact hown4, ((HI.out.bl.drew).alloc (by have := HI.out.bl.size; simpa using this) _).grown hgrow4 (by have := HI.out.bl.size; simp; omega) (fun g hg => HI.out.own.lt g hg)⟩)
        clear z0 z1 z2 z3 z4 z5 z6 z7 z8 hown4 hgrow4 hat4
        go_wp2_with fail
        exact ⟨⟨k + 1, by go_num, hk, HQ⟩, by simp [RowKit.intOf]; omega⟩
    · have hkz : ¬ (k : Int) < (n : Int) := by omega
      have hke : k = n := by omega
      have HQ := Lib.hid (HF.out _ _ (hke ▸ HI.out))
      clear hke HI
      go_wp2_with fail
      go_ret
      exact HQ.out

set_option maxHeartbeats 4000000 in
set_option maxRecDepth 100000 in
theorem made_any (w : World) (X : List Ent) (p : Option Addr) (ca : Nat) (hp : RowE w p X) (hX : X.length ≤ 2000) :
    Calls Try.prog 20 #[.slice p X.length ca] w (RetCv w 84 X) := by
  obtain ⟨n, hN⟩ : ∃ n, X.length = n := ⟨_, rfl⟩
  have HN := Lib.hid hN
  have HR := Lib.hid hp
  have hnb : (n : Int) ≤ 2000 := by omega
  have HF := Lib.hid (show ∀ v w', CvI w 84 X n v w' → RetCv w 84 X (.returned v) w' from fun v w' h => ⟨v, rfl, by
    have := h.own
    rwa [List.take_of_length_le (by omega)] at this, h.bl⟩)
  rw [hN]
  clear hN hp hX
  go_enter Try.func20, Try.ntmps20
  go_wp2_with fail
  go_loopw [3, 4] (fun v i wr => ∃ k : Nat, i = .int .i64 k ∧ k ≤ n ∧ Hid (CvI w 84 X k v wr)) (fun _ i _ => n - (RowKit.intOf i).toNat)
  case atStart => exact ⟨0, rfl, Nat.zero_le _, Lib.hid ⟨OwnE.nil _ _ _, Below.refl _ _⟩⟩
  case round =>
    obtain ⟨k, rfl, hkn, HI⟩ := hrel
    rcases Nat.lt_or_ge k n with hk | hk
    · have hkz : (k : Int) < (n : Int) := by omega
      have hklt : k < X.length := by rw [HN.out]; exact hk
      obtain ⟨e, he⟩ : ∃ e, X.getD k default = e := ⟨_, rfl⟩
      obtain ⟨pb, po, rfl, hpb, hcell⟩ := ent_cells HR.out HI.out.bl hklt
      rw [he] at hcell
      have HTK := Lib.hid (show X.take (k + 1) = X.take k ++ [e] by
        rw [List.take_succ_eq_append_getElem hklt, ← he]
        simp [List.getD, hklt])
      have HLK := Lib.hid (show (X.take k).length = k by rw [List.length_take]; omega)
      obtain ⟨E, hE⟩ : ∃ E, e = E := ⟨_, rfl⟩
      rw [hE] at HTK
      obtain ⟨es, er, ep, ek⟩ := e
      have z0 := hcell 0 (by decide)
      have z1 := hcell 1 (by decide)
      have z2 := hcell 2 (by decide)
      have z3 := hcell 3 (by decide)
      have z4 := hcell 4 (by decide)
      have z5 := hcell 5 (by decide)
      have z6 := hcell 6 (by decide)
      have z7 := hcell 7 (by decide)
      have z8 := hcell 8 (by decide)
      simp only [Ent.list, Nat.add_zero] at z0 z1 z2 z3 z4 z5 z6 z7 z8
      have HON := Lib.hid (show ∀ w3 : World, RowE (w3.alloc (.cells #[.int .i64 es, .int .i64 er.c, .int .i64 er.s, .int .i64 er.e, .bool er.fd, .string (strB er.v), .slice ep er.ls.length ek, .string (strB er.nx), .bool er.mr] 84)) (some ⟨w3.heap.size, 0, none⟩) [E] from fun w3 => hE ▸ one_ent (new_block _ _ _))
      clear hcell he hE
      obtain ⟨yc, yrs, ye, yf, yv, yls, yn, ym⟩ := er
      simp only at z0 z1 z2 z3 z4 z5 z6 z7 z8 HON
      generalize strB yv = sv at z5 HON
      generalize strB yn = sx at z7 HON
      generalize yls.length = m at z6 HON
      have hpos : (0 : Int) ≤ (k : Int) := by omega
      go_upto_region 5 with fail
      go_region_law (refine step_app_ents ent_once rfl _ _ rfl (by simp [Act.eval]) (HI.out.own.drewN 1 |>.alloc _) (some ⟨wr.heap.size, 0, none⟩) 1 [E] (by simp [Act.eval]) (HON.out wr.drew) (fun h => by cases h) (by have := HLK.out; simp only [List.length_cons, List.length_nil]; omega) (by have := HI.out.bl.size; simp; omega) ?_; intro v4 w4 hown4 hgrow4 hat4)
      all_goals
        have HQ := Lib.hid (show CvI w 84 X (k + 1) v4 w4 from ⟨by rw [HTK.out]; exact hown4, ((HI.out.bl.drew).alloc (by have := HI.out.bl.size; simpa using this) _).grown hgrow4 (by have := HI.out.bl.size; simp; omega) (fun g hg => HI.out.own.lt g hg)⟩)
        clear z0 z1 z2 z3 z4 z5 z6 z7 z8 hown4 hgrow4 hat4
        go_wp2_with fail
        exact ⟨⟨k + 1, by go_num, hk, HQ⟩, by simp [RowKit.intOf]; omega⟩
    · have hkz : ¬ (k : Int) < (n : Int) := by omega
      have hke : k = n := by omega
      have HQ := Lib.hid (HF.out _ _ (hke ▸ HI.out))
      clear hke HI
      go_wp2_with fail
      go_ret
      exact HQ.out
end Go.Proofs.Ytfadpiipigkocaa
namespace Go.Proofs.Ytfadpiipigkocaa
open Go.RowKit Go.Gz

/-- an entry's cells. -/
def KE : SK Ent where
  cf := Ent.list
  n := 9
  len _ := rfl
  one e u hu := by
    simp only [Ent.list, List.mem_cons, List.not_mem_nil, or_false] at hu
    rcases hu with rfl | rfl | rfl | rfl | rfl | rfl | rfl | rfl | rfl <;> rfl
  pos := by decide
theorem ske_once : SKT Try.prog KE 84 38 zeroLast 104 := ⟨Try.underlying38, by kernel_rfl, by kernel_rfl, by decide⟩
theorem ownE_iff {w : World} {B : Nat} {t : TypeId} {v : Value} {L : List Ent} : OwnK KE w B t v L ↔ OwnE w B t v L := Iff.rfl
theorem rowE_iff {w : World} {p : Option Addr} {L : List Ent} : RowK KE w p L ↔ RowE w p L := Iff.rfl
end Go.Proofs.Ytfadpiipigkocaa
