/-
  Layer atlas: the walk of AtlasGoes, of a program that answers as is asked.
-/
import Derived.Test.YtodcnemnajlbdaaAtAwake
import Derived.Test.YtodcnemnajlbdaaAtEq
import Derived.Deep.CutBlock
import Derived.Laws.IdiomStrings
namespace Go.Proofs.Ytodcnemnajlbdaa
open Go.RowKit Go.Gz

structure T8 where
  a : Fin 256
  b : Fin 256
  c : Fin 256
instance : Inhabited T8 := ⟨⟨0, 0, 0⟩⟩
def K8 : SK T8 where
  cf x := [.int .u8 (x.a.val : Int), .int .u8 (x.b.val : Int), .int .u8 (x.c.val : Int)]
  n := 3
  len _ := rfl
  one x u hu := by
    simp only [List.mem_cons, List.not_mem_nil, or_false] at hu
    rcases hu with rfl | rfl | rfl <;> rfl
  pos := by decide
def boxV (ep : Int) (p : Option Addr) (n c : Nat) : List Value := [.int .i64 ep, .slice p n c]
/-- as far as the changes have come: an atlas that may be stands in block o. -/
structure GoI (W : World) (o : Nat) (wr : World) : Prop where
  bel : Below W.heap.size W wr
  st : ∃ ep L p c, wr.heap[o]? = some (.cells (boxV ep p L.length c).toArray 26 (0, 0)) ∧ RowK KS wr p L ∧ TyP wr p 40 ∧ MayA 5 ep L
/-- behind a change: what it answered stands in block o6. -/
structure GoM (wa : World) (o6 : Nat) (ep : Int) (L : List Sd) (out : OutA) (wx : World) : Prop where
  kept : KeptF (fun j => j = o6) wa wx
  obj : ∃ p c, wx.heap[o6]? = some (.cells (boxV out.ep p out.L.length c).toArray 26 (0, 0)) ∧ RowK KS wx p out.L ∧ TyP wx p 40
  done : out.err = 0 → DoneA ep L 5 out
theorem GoM.put {wa w4 : World} {o6 : Nat} {ep : Int} {L : List Sd} {out : OutA} {p : Option Addr} (c : Nat) {cs : List Value} (hk : KeptF (fun j => j = o6) wa w4) (ho : w4.heap[o6]? = some (.cells cs.toArray 26 (0, 0))) (hl : cs.length = 2)
    (hr : RowK KS w4 p out.L) (ht : TyP w4 p 40) (hd : out.err = 0 → DoneA ep L 5 out) : GoM wa o6 ep L out (layCells w4 o6 0 (boxV out.ep p out.L.length c)) :=
  ⟨KeptF.layCells (F := fun j => j = o6) rfl _ _ _ hk, ⟨p, c, layCells_all _ ho (by rw [hl]; rfl), hr.layCells (ht.ne ho (by decide)) _ _, ht.layCells ho (by decide) _ _⟩, hd⟩

def vpRet (o : OutA) : VP := ⟨fun v w => ∃ p c q d, v = .tuple #[.agg #[.int .i64 o.ep, .slice p o.L.length c], .slice q o.gone.length d, .int .i64 o.err] ∧ RowK KS w p o.L ∧ TyP w p 40, fun _ _ _ ⟨p, c, q, d, h1, h2, h3⟩ hb => ⟨p, c, q, d, h1, h2.below hb, h3.below hb⟩⟩
def vpAt (o : OutA) : VP := ⟨fun v w => ∃ p c, v = .agg #[.int .i64 o.ep, .slice p o.L.length c] ∧ RowK KS w p o.L ∧ TyP w p 40, fun _ _ _ ⟨p, c, h1, h2, h3⟩ hb => ⟨p, c, h1, h2.below hb, h3.below hb⟩⟩
def vpGone (o : OutA) : VP := ⟨fun v _ => ∃ q d, v = .slice q o.gone.length d, fun _ _ _ h _ => h⟩
def vpBytes (x y : Value) : VP := ⟨fun v w => ∃ b, v = .slice (some ⟨b, 0, none⟩) 2 2 ∧ w.heap[b]? = some (.cells #[x, y] 5 (0, 0)), fun _ _ _ ⟨b, h1, h2⟩ hb => ⟨b, h1, by rw [hb.block b (Array.getElem?_eq_some_iff.1 h2).1]; exact h2⟩⟩
def aggL : Value → List Value | .agg xs => xs.toList | _ => []
/-- a store into an atlas' block leaves it so. -/
def Sta (vp : VP) : Prop := ∀ v w o (cs cs' : List Value) fz, vp.f v w → w.heap[o]? = some (.cells cs.toArray 26 fz) → vp.f v (layCells w o 0 cs')
theorem sta_eq (x : Value) : Sta (VP.eq x) := fun _ _ _ _ _ _ h _ => h
theorem sta_any : Sta VP.any := fun _ _ _ _ _ _ h _ => h
theorem sta_gone (o : OutA) : Sta (vpGone o) := fun _ _ _ _ _ _ h _ => h
theorem sta_at (o : OutA) : Sta (vpAt o) := fun _ _ _ _ _ _ ⟨p, c, h1, h2, h3⟩ hb => ⟨p, c, h1, h2.layCells (h3.ne hb (by decide)) _ _, h3.layCells hb (by decide) _ _⟩
theorem sta_ret (o : OutA) : Sta (vpRet o) := fun _ _ _ _ _ _ ⟨p, c, q, d, h1, h2, h3⟩ hb => ⟨p, c, q, d, h1, h2.layCells (h3.ne hb (by decide)) _ _, h3.layCells hb (by decide) _ _⟩
theorem sta_bytes (x y : Value) : Sta (vpBytes x y) := fun _ w o _ _ _ ⟨b, h1, h2⟩ hb => ⟨b, h1, by
  rw [layCells_other o _ 0 w b (fun e => by
    rw [e, hb] at h2
    injection h2 with h2
    injection h2 with _ h2 _
    exact absurd h2 (by decide))]
  exact h2⟩
theorem sta_list (vs : List VP) (h : ∀ vp ∈ vs, Sta vp) : ∀ k v w o (cs : Array Value) fz (cs' : List Value), (VP.at vs k).f v w → w.heap[o]? = some (.cells cs 26 fz) → (VP.at vs k).f v (layCells w o 0 cs') := fun k v w o cs fz cs' hv hb => by
  unfold VP.at at hv ⊢
  cases hk : vs[k]? with
  | none => exact trivial
  | some vp =>
    rw [hk] at hv
    exact h vp (List.mem_of_getElem? hk) v w o cs.toList cs' fz hv hb

set_option maxHeartbeats 4000000 in
set_option maxRecDepth 100000 in
theorem goes_walk (HP : ProgA) (ls : List T8) (p : Option Addr) (ca : Nat) (w : World) (hp : RowK K8 w p ls) :
    Calls Try.prog 3 #[.slice p ls.length ca] w fun e w' => e = .returned (.bool true) ∧ Below w.heap.size w w' := by
  have HH := Lib.hid HP
  have HR := Lib.hid hp
  obtain ⟨n, hN⟩ : ∃ n, ls.length = n := ⟨_, rfl⟩
  have HN := Lib.hid hN
  rw [hN]
  clear HP hp hN
  have CA := Lib.hid (fun w => awake_yes HH.out w)
  go_enter Try.func3, Try.ntmps3
  go_wp2_with fail
  refine (CA.out _).mono ?_
  rintro e w1 ⟨rfl, hb1⟩
  have H1 := Lib.hid hb1
  clear hb1
  by_cases h100 : 100 < n
  · have hz : (100 : Int) < (n : Int) := by omega
    go_wp2_with fail
    go_ret
    exact ⟨rfl, H1.out⟩
  · have hz : ¬ (100 : Int) < (n : Int) := by omega
    go_wp2_with fail
    refine (HH.out.first 1 _).mono ?_
    rintro e w2 ⟨q0, c0, rfl, hrow2, hty2, hb2⟩
    obtain ⟨w3, hw3⟩ : ∃ w3, w2.alloc (.cells #[.int .i64 1, .slice q0 1 c0] 26) = w3 := ⟨_, rfl⟩
    have hb3 : Below w2.heap.size w2 w3 := hw3 ▸ below_alloc _ _
    have HI0 := Lib.hid (show GoI w w2.heap.size w3 from ⟨H1.out.trans ((hb2.trans (hb3.mono hb2.size)).mono H1.out.size), 1, [⟨⟨ByteArray.empty, ByteArray.empty⟩, 1, 1⟩], q0, c0, hw3 ▸ alloc_at _ _, hrow2.below hb3, hty2.below hb3, MayA.first (by omega) (by omega) (by omega)⟩)
    have HO := Lib.hid (show w.heap.size ≤ w2.heap.size from Nat.le_trans H1.out.size hb2.size)
    have HW3 := Lib.hid hw3
    obtain ⟨o, ho⟩ : ∃ o, w2.heap.size = o := ⟨_, rfl⟩
    have HOW := Lib.hid ho
    rw [ho] at HI0 HO
    clear hrow2 hty2 hb2 hb3 hw3 ho
    go_wp2_with fail
    rw [HW3.out, HOW.out]
    clear HW3 HOW
    go_loopg [4, 5, 6, 7, 8, 9, 10, 11] n (fun gg s4 s5 s6 s7 s8 s9 s10 s11 wr => ∃ k : Nat, k ≤ n ∧ n - k ≤ gg ∧ s4 = .int .i64 k ∧ Hid (GoI w o wr))
    case atStart => exact ⟨0, Nat.zero_le _, by omega, rfl, HI0⟩
    case round =>
      obtain ⟨k, hk, hg, rfl, HI⟩ := hrel
      rcases Nat.lt_or_ge k n with hlt | hge
      · have hltz : (k : Int) < (n : Int) := by omega
        have hklt : k < ls.length := by rw [HN.out]; exact hlt
        obtain ⟨x, hx⟩ : ∃ x, ls.getD k default = x := ⟨_, rfl⟩
        obtain ⟨pb, po, rfl, hpb, hcell⟩ := HR.out.cells HI.out.bel hklt
        rw [hx] at hcell
        obtain ⟨⟨xa, ha⟩, ⟨xb, hb⟩, ⟨xc, hc⟩⟩ := x
        have z0 := hcell 0 (by decide)
        have z1 := hcell 1 (by decide)
        have z2 := hcell 2 (by decide)
        simp only [K8, Nat.add_zero] at z0 z1 z2
        clear hcell hx
        go_upto_region 11 with fail
        obtain ⟨wa, hwa⟩ : ∃ wa, wr.alloc (.cells #[.int .i64 0, .slice none 0 0] 26) = wa := ⟨_, rfl⟩
        rw [hwa]
        have HBa := Lib.hid (show Below wr.heap.size wr wa from hwa ▸ below_alloc _ _)
        have HOa := Lib.hid (show wa.heap[wr.heap.size]? = some (.cells [Value.int .i64 0, .slice none 0 0].toArray 26 (0, 0)) from hwa ▸ alloc_at _ _)
        obtain ⟨o6, ho6⟩ : ∃ o6, wr.heap.size = o6 := ⟨_, rfl⟩
        rw [ho6] at HOa ⊢
        have hpr := Nat.lt_of_lt_of_le hpb HI.out.bel.size
        have y0 := (HBa.out.cell (p := ⟨pb, po + k * 3, none⟩) hpr).trans z0
        have y1 := (HBa.out.cell (p := ⟨pb, po + k * 3 + 1, none⟩) hpr).trans z1
        have y2 := (HBa.out.cell (p := ⟨pb, po + k * 3 + 2, none⟩) hpr).trans z2
        simp only [List.getElem?_cons_zero, List.getElem?_cons_succ] at z0 z1 z2 y0 y1 y2
        clear z0 z1 z2
        obtain ⟨m, hm⟩ : ∃ m : Nat, xa % 3 = m := ⟨_, rfl⟩
        have hmt : (xa : Int).tmod 3 = (m : Int) := by rw [Int.tmod_eq_emod_of_nonneg (by omega)]; omega
        go_upto_block 2 with fail
        obtain ⟨ep, L, lp, lc, hob3, hrow3, hty3, hmay⟩ := HI.out.st
        have HRa := Lib.hid (hrow3.below HBa.out)
        have HTa := Lib.hid (hty3.below HBa.out)
        have HMay := Lib.hid hmay
        have hlen : L.length ≤ 1000000 := by have := hmay.ln; omega
        have ho3 : o < wr.heap.size := (Array.getElem?_eq_some_iff.1 hob3).1
        have HO3 := Lib.hid (show wa.heap[o]? = some (.cells (boxV ep lp L.length lc).toArray 26 (0, 0)) by rw [HBa.out.block _ ho3]; exact hob3)
        have HNE := Lib.hid (show o < o6 by omega)
        have HNP := Lib.hid (show ∀ a, lp = some a → a.block ≠ o6 from HTa.out.ne HOa.out (by decide))
        have x0 : wa.cell? ⟨o, 0, none⟩ = some (.int .i64 ep) := by simp [World.cell?, HO3.out, boxV]
        have x1 : wa.cell? ⟨o, 1, none⟩ = some (.slice lp L.length lc) := by simp [World.cell?, HO3.out, boxV]
        have g0 : wa.cell? ⟨o6, 0, none⟩ = some (.int .i64 0) := by simp [World.cell?, HOa.out]
        have g1 : wa.cell? ⟨o6, 1, none⟩ = some (.slice none 0 0) := by simp [World.cell?, HOa.out]
        have hm3 : m < 3 := by omega
        have HL := Lib.hid (show o6 < wa.heap.size from (Array.getElem?_eq_some_iff.1 HOa.out).1)
        clear hob3 hrow3 hty3 hmay hwa hm hmt
        go_cut [7, 8] from 36 to 83 (fun v7 v8 wx => ∃ out : OutA, ∃ q d, v7 = .slice q out.gone.length d ∧ v8 = .int .i64 out.err ∧ Hid (GoM wa o6 ep L out wx))
        case first =>
          obtain rfl | rfl | rfl : m = 0 ∨ m = 1 ∨ m = 2 := by omega
          · obtain ⟨m26, hm26⟩ : ∃ m : Nat, xb % 26 = m := ⟨_, rfl⟩
            have hmt26 : (xb : Int).tmod 26 = (m26 : Int) := by rw [Int.tmod_eq_emod_of_nonneg (by omega)]; omega
            have hm26l : m26 < 26 := by omega
            have hw8 : IntKind.u8.wrap (97 + (m26 : Int)) = 97 + (m26 : Int) := by simp only [IntKind.wrap, IntKind.bits, IntKind.signed]; simp; omega
            obtain ⟨key, hkey⟩ : ∃ key : ByteArray, key = ⟨#[UInt8.ofNat (97 + m26), UInt8.ofNat xc]⟩ := ⟨_, rfl⟩
            have HCV := Lib.hid (fun (w' : World) (b : Nat) (hb : w'.heap[b]? = some (.cells #[.int .u8 (97 + (m26 : Int)), .int .u8 (xc : Int)] 5 (0, 0))) => show (convert 33 9 (.slice (some ⟨b, 0, none⟩) 2 2)).run Try.prog w' = .ok (.string key) w' from by
              rw [hkey]
              refine run_convert_bytes_back w' _ _ 5 ⟨b, 0, none⟩ 2 [UInt8.ofNat (97 + m26), UInt8.ofNat xc] Try.underlying33 Try.underlying5 Try.underlying9 (fun j hj => ?_)
              have e2 : (UInt8.ofNat xc).toNat = xc := by rw [UInt8.toNat_ofNat']; omega
              match j, hj with
              | 0, _ =>
                simp [World.cell?, Addr.add, hb]
                omega
              | 1, _ => simp [World.cell?, Addr.add, hb, e2])
            clear hkey
            obtain ⟨out, hout⟩ : ∃ out, splitA ep L key = out := ⟨_, rfl⟩
            have CSp := Lib.hid (fun w h => hout ▸ HH.out.split ep L lp lc key w h hlen)
            have HD := Lib.hid (show out.err = 0 → DoneA ep L 5 out from hout ▸ split_done HMay.out)
            clear hout
            have HF1 := Lib.hid (show o < wa.heap.size ∧ ¬ o = o6 from ⟨Nat.lt_of_lt_of_le ho3 HBa.out.size, by have := HNE.out; omega⟩)
            have HF2 := Lib.hid (show pb < wa.heap.size ∧ ¬ pb = o6 from ⟨Nat.lt_of_lt_of_le hpr HBa.out.size, by omega⟩)
            have HX0 := Lib.hid x0
            have HX1 := Lib.hid x1
            have HY1 := Lib.hid y1
            have HY2 := Lib.hid y2
            have hposk : (0 : Int) ≤ (k : Int) := by omega
            go_upto_region 16 with fail
            clear x0 x1 y0 y1 y2 g0 g1
            refine wp_region_put mixedAt (by kernel_rfl) [VP.eq (.agg #[.int .i64 ep, .slice lp L.length lc]), VP.eq (.slice (some ⟨pb, po, none⟩) n ca), VP.eq (.int .i64 k), VP.eq (.pointer (some ⟨pb, po + k * 3, none⟩)), VP.eq (.pointer (some ⟨pb, po + k * 3 + 1, none⟩)), VP.eq (.int .u8 xb), VP.eq (.int .u8 (m26 : Int)), VP.eq (.int .u8 (97 + (m26 : Int))), VP.eq (.slice (some ⟨pb, po, none⟩) n ca), VP.eq (.int .i64 k), VP.eq (.pointer (some ⟨pb, po + k * 3, none⟩)), VP.eq (.pointer (some ⟨pb, po + k * 3 + 2, none⟩)), VP.eq (.int .u8 xc), vpBytes (.int .u8 (97 + (m26 : Int))) (.int .u8 (xc : Int)), VP.eq (.string key), vpRet out, vpRet out, vpAt out, vpGone out, VP.eq (.int .i64 out.err), VP.any, vpGone out, VP.eq (.int .i64 out.err)]
              20 17 (by kernel_rfl) (by decide) o6 [Value.int .i64 0, Value.slice none 0 0] 26 (0, 0) aggL HOa.out ?_ ?_ ?_ ?_
            · refine fun k v w' cs' cs'' => sta_list _ (fun vp hvp => ?_) k v w' o6 cs' (0, 0) cs''
              simp only [List.mem_cons, List.not_mem_nil, or_false] at hvp
              rcases hvp with rfl | rfl | rfl | rfl | rfl | rfl | rfl | rfl | rfl | rfl | rfl | rfl | rfl | rfl | rfl | rfl | rfl | rfl | rfl | rfl | rfl | rfl | rfl
              all_goals first | exact sta_eq _ | exact sta_any | exact sta_ret _ | exact sta_at _ | exact sta_gone _ | exact sta_bytes _ _
            · intro i opr Ls vals w' hi hL hdep hC hK hob hV hn
              have hlt : i < 23 := by have := (List.getElem?_eq_some_iff.1 hi).1; simpa using this
              generalize hA : frA _ _ Ls vals = a'
              have hT0 : a'.tmps.getD 0 undef = .slice (some ⟨pb, po, none⟩) n ca := by rw [← hA, frA_base (by kernel_rfl)]; rfl
              have hT3 : a'.tmps.getD 3 undef = .pointer (some ⟨o, 0, none⟩) := by rw [← hA, frA_base (by kernel_rfl)]; rfl
              have hT4 : a'.tmps.getD 4 undef = .int .i64 k := by rw [← hA, frA_base (by kernel_rfl)]; rfl
              have hT5 : a'.tmps.getD 5 undef = .int .i64 xb := by rw [← hA, frA_base (by kernel_rfl)]; rfl
              have hT6 : a'.tmps.getD 6 undef = .pointer (some ⟨o6, 0, none⟩) := by rw [← hA, frA_base (by kernel_rfl)]; rfl
              have hD := Lib.hid (fun k t (hk : Ls k = true) (ht : dstOf _ k = some t) => hA ▸ frA_done (by kernel_rfl) (vals := vals) hk ht)
              clear hA
              have x0' := (hK.cell (p := ⟨o, 0, none⟩) HF1.out.1 HF1.out.2).trans HX0.out
              have x1' := (hK.cell (p := ⟨o, 1, none⟩) HF1.out.1 HF1.out.2).trans HX1.out
              have y1' := (hK.cell (p := ⟨pb, po + k * 3 + 1, none⟩) HF2.out.1 HF2.out.2).trans HY1.out
              have y2' := (hK.cell (p := ⟨pb, po + k * 3 + 2, none⟩) HF2.out.1 HF2.out.2).trans HY2.out
              have hrow' := HRa.out.kept hK HNP.out
              obtain rfl | rfl | rfl | rfl | rfl | rfl | rfl | rfl | rfl | rfl | rfl | rfl | rfl | rfl | rfl | rfl | rfl | rfl | rfl | rfl | rfl | rfl : i = 0 ∨ i = 1 ∨ i = 2 ∨ i = 3 ∨ i = 4 ∨ i = 5 ∨ i = 6 ∨ i = 7 ∨ i = 8 ∨ i = 9 ∨ i = 10 ∨ i = 11 ∨ i = 12 ∨ i = 13 ∨ i = 14 ∨ i = 15 ∨ i = 16 ∨ i = 17 ∨ i = 18 ∨ i = 19 ∨ i = 21 ∨ i = 22 := by omega
              all_goals
                injection hi with hi
                subst hi
                try simp [Region.binds] at hdep
              · skip
                exact step_run rfl (v := .agg #[.int .i64 ep, .slice lp L.length lc]) (w' := w') (by go_simp) ⟨rfl, Below.refl _ _⟩
              · skip
                exact step_run rfl (v := .slice (some ⟨pb, po, none⟩) n ca) (w' := w') (by go_simp) ⟨rfl, Below.refl _ _⟩
              · skip
                exact step_run rfl (v := .int .i64 k) (w' := w') (by go_simp) ⟨rfl, Below.refl _ _⟩
              · skip
                have d56 := hD.out 1 56 (by simp [hdep]) rfl
                rw [show vals 1 = _ from hV 1 (by simp [hdep]) (by decide)] at d56
                have d57 := hD.out 2 57 (by simp [hdep]) rfl
                rw [show vals 2 = _ from hV 2 (by simp [hdep]) (by decide)] at d57
                exact step_run rfl (v := .pointer (some ⟨pb, po + k * 3, none⟩)) (w' := w') (by go_simp) ⟨rfl, Below.refl _ _⟩
              · skip
                have d58 := hD.out 3 58 (by simp [hdep]) rfl
                rw [show vals 3 = _ from hV 3 (by simp [hdep]) (by decide)] at d58
                exact step_run rfl (v := .pointer (some ⟨pb, po + k * 3 + 1, none⟩)) (w' := w') (by go_simp) ⟨rfl, Below.refl _ _⟩
              · skip
                have d59 := hD.out 4 59 (by simp [hdep]) rfl
                rw [show vals 4 = _ from hV 4 (by simp [hdep]) (by decide)] at d59
                exact step_run rfl (v := .int .u8 xb) (w' := w') (by go_simp) ⟨rfl, Below.refl _ _⟩
              · skip
                have d60 := hD.out 5 60 (by simp [hdep]) rfl
                rw [show vals 5 = _ from hV 5 (by simp [hdep]) (by decide)] at d60
                exact step_run rfl (v := .int .u8 (m26 : Int)) (w' := w') (by go_simp) ⟨rfl, Below.refl _ _⟩
              · skip
                have d61 := hD.out 6 61 (by simp [hdep]) rfl
                rw [show vals 6 = _ from hV 6 (by simp [hdep]) (by decide)] at d61
                exact step_run rfl (v := .int .u8 (97 + (m26 : Int))) (w' := w') (by go_simp) ⟨rfl, Below.refl _ _⟩
              · skip
                exact step_run rfl (v := .slice (some ⟨pb, po, none⟩) n ca) (w' := w') (by go_simp) ⟨rfl, Below.refl _ _⟩
              · skip
                exact step_run rfl (v := .int .i64 k) (w' := w') (by go_simp) ⟨rfl, Below.refl _ _⟩
              · skip
                have d63 := hD.out 8 63 (by simp [hdep]) rfl
                rw [show vals 8 = _ from hV 8 (by simp [hdep]) (by decide)] at d63
                have d64 := hD.out 9 64 (by simp [hdep]) rfl
                rw [show vals 9 = _ from hV 9 (by simp [hdep]) (by decide)] at d64
                exact step_run rfl (v := .pointer (some ⟨pb, po + k * 3, none⟩)) (w' := w') (by go_simp) ⟨rfl, Below.refl _ _⟩
              · skip
                have d65 := hD.out 10 65 (by simp [hdep]) rfl
                rw [show vals 10 = _ from hV 10 (by simp [hdep]) (by decide)] at d65
                exact step_run rfl (v := .pointer (some ⟨pb, po + k * 3 + 2, none⟩)) (w' := w') (by go_simp) ⟨rfl, Below.refl _ _⟩
              · skip
                have d66 := hD.out 11 66 (by simp [hdep]) rfl
                rw [show vals 11 = _ from hV 11 (by simp [hdep]) (by decide)] at d66
                exact step_run rfl (v := .int .u8 xc) (w' := w') (by go_simp) ⟨rfl, Below.refl _ _⟩
              · skip
                have d62 := hD.out 7 62 (by simp [hdep]) rfl
                rw [show vals 7 = _ from hV 7 (by simp [hdep]) (by decide)] at d62
                have d67 := hD.out 12 67 (by simp [hdep]) rfl
                rw [show vals 12 = _ from hV 12 (by simp [hdep]) (by decide)] at d67
                rw [Array.getD_eq_getD_getElem?] at d62 d67
                exact step_run rfl (v := .slice (some ⟨w'.heap.size, 0, none⟩) 2 2) (w' := w'.alloc (.cells #[.int .u8 (97 + (m26 : Int)), .int .u8 (xc : Int)] 5)) (by go_simp) ⟨⟨_, rfl, alloc_at _ _⟩, below_alloc _ _⟩
              · skip
                have d68 := hD.out 13 68 (by simp [hdep]) rfl
                obtain ⟨bb, ev, g1⟩ : (vpBytes (.int .u8 (97 + (m26 : Int))) (.int .u8 (xc : Int))).f (vals 13) w' := hV 13 (by simp [hdep]) (by decide)
                rw [ev] at d68
                have hcv := HCV.out w' bb g1
                exact step_run rfl (v := .string key) (w' := w') (by go_simp) ⟨rfl, Below.refl _ _⟩
              · skip
                have d55 := hD.out 0 55 (by simp [hdep]) rfl
                rw [show vals 0 = _ from hV 0 (by simp [hdep]) (by decide)] at d55
                have d69 := hD.out 14 69 (by simp [hdep]) rfl
                rw [show vals 14 = _ from hV 14 (by simp [hdep]) (by decide)] at d69
                exact step_enter (f := 9) (args := #[.agg #[.int .i64 ep, .slice lp L.length lc], .string key]) (w' := w') rfl (by go_simp) ((CSp.out w' hrow').mono fun e w'' ⟨p7, c7, q7, d7, he, h1, _, ⟨h3, _⟩, h5⟩ => ⟨_, he, ⟨p7, c7, q7, d7, rfl, h1, h3⟩, h5⟩)
              · skip
                have d70 := hD.out 15 70 (by simp [hdep]) rfl
                obtain ⟨pp, cc, qq, dd, ev, g1, g2⟩ : (vpRet out).f (vals 15) w' := hV 15 (by simp [hdep]) (by decide)
                rw [ev] at d70
                exact step_run rfl (v := .tuple #[.agg #[.int .i64 out.ep, .slice pp out.L.length cc], .slice qq out.gone.length dd, .int .i64 out.err]) (w' := w') (by go_simp) ⟨⟨pp, cc, qq, dd, rfl, g1, g2⟩, Below.refl _ _⟩
              · skip
                have d54 := hD.out 16 54 (by simp [hdep]) rfl
                obtain ⟨pp, cc, qq, dd, ev, g1, g2⟩ : (vpRet out).f (vals 16) w' := hV 16 (by simp [hdep]) (by decide)
                rw [ev] at d54
                exact step_run rfl (v := .agg #[.int .i64 out.ep, .slice pp out.L.length cc]) (w' := w') (by go_simp) ⟨⟨pp, cc, rfl, g1, g2⟩, Below.refl _ _⟩
              · skip
                have d54 := hD.out 16 54 (by simp [hdep]) rfl
                obtain ⟨pp, cc, qq, dd, ev, g1, g2⟩ : (vpRet out).f (vals 16) w' := hV 16 (by simp [hdep]) (by decide)
                rw [ev] at d54
                exact step_run rfl (v := .slice qq out.gone.length dd) (w' := w') (by go_simp) ⟨⟨qq, dd, rfl⟩, Below.refl _ _⟩
              · skip
                have d54 := hD.out 16 54 (by simp [hdep]) rfl
                obtain ⟨pp, cc, qq, dd, ev, g1, g2⟩ : (vpRet out).f (vals 16) w' := hV 16 (by simp [hdep]) (by decide)
                rw [ev] at d54
                exact step_run rfl (v := .int .i64 out.err) (w' := w') (by go_simp) ⟨rfl, Below.refl _ _⟩
              · skip
                have d72 := hD.out 18 72 (by simp [hdep]) rfl
                obtain ⟨qq, dd, ev⟩ : (vpGone out).f (vals 18) w' := hV 18 (by simp [hdep]) (by decide)
                rw [ev] at d72
                exact step_run rfl (v := .slice qq out.gone.length dd) (w' := w') (by go_simp) ⟨⟨qq, dd, rfl⟩, Below.refl _ _⟩
              · skip
                have d73 := hD.out 19 73 (by simp [hdep]) rfl
                rw [show vals 19 = _ from hV 19 (by simp [hdep]) (by decide)] at d73
                exact step_run rfl (v := .int .i64 out.err) (w' := w') (by go_simp) ⟨rfl, Below.refl _ _⟩
            · intro opr Ls vals w' hi hL hdep hC hK hob hV
              generalize hA : frA _ _ Ls vals = a'
              have hT0 : a'.tmps.getD 0 undef = .slice (some ⟨pb, po, none⟩) n ca := by rw [← hA, frA_base (by kernel_rfl)]; rfl
              have hT3 : a'.tmps.getD 3 undef = .pointer (some ⟨o, 0, none⟩) := by rw [← hA, frA_base (by kernel_rfl)]; rfl
              have hT4 : a'.tmps.getD 4 undef = .int .i64 k := by rw [← hA, frA_base (by kernel_rfl)]; rfl
              have hT5 : a'.tmps.getD 5 undef = .int .i64 xb := by rw [← hA, frA_base (by kernel_rfl)]; rfl
              have hT6 : a'.tmps.getD 6 undef = .pointer (some ⟨o6, 0, none⟩) := by rw [← hA, frA_base (by kernel_rfl)]; rfl
              have hD := Lib.hid (fun k t (hk : Ls k = true) (ht : dstOf _ k = some t) => hA ▸ frA_done (by kernel_rfl) (vals := vals) hk ht)
              clear hA
              injection hi with hi
              subst hi
              try simp [Region.binds] at hdep
              have d71 := hD.out 17 71 hL rfl
              obtain ⟨pp, cc, ev, g1, g2⟩ : (vpAt out).f (vals 17) w' := hV 17 hL (by decide)
              rw [ev] at d71 ⊢
              have z0 : w'.cell? ⟨o6, 0, none⟩ = some (.int .i64 0) := by simp [World.cell?, hob]
              have z1 : w'.cell? ⟨o6, 1, none⟩ = some (.slice none 0 0) := by simp [World.cell?, hob]
              have f0 : w'.frozen? ⟨o6, 0, none⟩ = false := by simp [World.frozen?, hob]
              have f1 : w'.frozen? ⟨o6, 1, none⟩ = false := by simp [World.frozen?, hob]
              clear hob hV
              exact stepI_skip rfl (w' := layCells w' o6 0 (boxV out.ep pp out.L.length cc)) (by unfold boxV layCells layCells layCells; go_simp) ⟨rfl, rfl⟩
            · intro vals w4 hK hV hob
              have e0 : vals 0 = .agg #[.int .i64 ep, .slice lp L.length lc] := hV 0 (by decide) (by decide)
              have e1 : vals 1 = .slice (some ⟨pb, po, none⟩) n ca := hV 1 (by decide) (by decide)
              have e2 : vals 2 = .int .i64 k := hV 2 (by decide) (by decide)
              have e3 : vals 3 = .pointer (some ⟨pb, po + k * 3, none⟩) := hV 3 (by decide) (by decide)
              have e4 : vals 4 = .pointer (some ⟨pb, po + k * 3 + 1, none⟩) := hV 4 (by decide) (by decide)
              have e5 : vals 5 = .int .u8 xb := hV 5 (by decide) (by decide)
              have e6 : vals 6 = .int .u8 (m26 : Int) := hV 6 (by decide) (by decide)
              have e7 : vals 7 = .int .u8 (97 + (m26 : Int)) := hV 7 (by decide) (by decide)
              have e8 : vals 8 = .slice (some ⟨pb, po, none⟩) n ca := hV 8 (by decide) (by decide)
              have e9 : vals 9 = .int .i64 k := hV 9 (by decide) (by decide)
              have e10 : vals 10 = .pointer (some ⟨pb, po + k * 3, none⟩) := hV 10 (by decide) (by decide)
              have e11 : vals 11 = .pointer (some ⟨pb, po + k * 3 + 2, none⟩) := hV 11 (by decide) (by decide)
              have e12 : vals 12 = .int .u8 xc := hV 12 (by decide) (by decide)
              obtain ⟨b13, e13, -⟩ : (vpBytes (.int .u8 (97 + (m26 : Int))) (.int .u8 (xc : Int))).f (vals 13) w4 := hV 13 (by decide) (by decide)
              have e14 : vals 14 = .string key := hV 14 (by decide) (by decide)
              obtain ⟨p15, c15, q15, d15, e15, -, -⟩ : (vpRet out).f (vals 15) w4 := hV 15 (by decide) (by decide)
              obtain ⟨p16, c16, q16, d16, e16, -, -⟩ : (vpRet out).f (vals 16) w4 := hV 16 (by decide) (by decide)
              obtain ⟨p17, c17, e17, h1, h3⟩ : (vpAt out).f (vals 17) w4 := hV 17 (by decide) (by decide)
              obtain ⟨q18, d18, e18⟩ : (vpGone out).f (vals 18) w4 := hV 18 (by decide) (by decide)
              have e19 : vals 19 = .int .i64 out.err := hV 19 (by decide) (by decide)
              obtain ⟨q21, d21, e21⟩ : (vpGone out).f (vals 21) w4 := hV 21 (by decide) (by decide)
              have e22 : vals 22 = .int .i64 out.err := hV 22 (by decide) (by decide)
              rw [e17] at hob
              have HG := Lib.hid (show GoM wa o6 ep L out w4 from ⟨hK, ⟨p17, c17, hob, h1, h3⟩, HD.out⟩)
              simp only [putsL, Act.put, List.setIfInBounds_toArray, List.set_cons_zero, List.set_cons_succ, e0, e1, e2, e3, e4, e5, e6, e7, e8, e9, e10, e11, e12, e13, e14, e15, e16, e17, e18, e19, e21, e22]
              clear e0 e1 e2 e3 e4 e5 e6 e7 e8 e9 e10 e11 e12 e13 e14 e15 e16 e17 e18 e19 e21 e22 hK hV hob h1 h3
              go_wp2_with fail
              go_meet
              case rel => exact ⟨out, q21, d21, rfl, rfl, HG⟩
          · have CMg := Lib.hid (HH.out.merge ep L lp lc ((xb : Int).tmod 12) wa HRa.out hlen)
            obtain ⟨out, hout⟩ : ∃ out, mergeA ep L ((xb : Int).tmod 12) = out := ⟨_, rfl⟩
            have HD := Lib.hid (show out.err = 0 → DoneA ep L 5 out from hout ▸ merge_done HMay.out)
            rw [hout] at CMg
            clear hout
            go_wp2_with fail
            refine CMg.out.mono ?_
            rintro e w4 ⟨p4, c4, q4, d4, rfl, h1, -, ⟨h3, -⟩, h5⟩
            have HG := Lib.hid (show GoM wa o6 ep L out (layCells w4 o6 0 (boxV out.ep p4 out.L.length c4)) from GoM.put c4 (KeptF.of_below h5) ((h5.block _ HL.out).trans HOa.out) rfl h1 h3 HD.out)
            have k0 := (h5.cell (p := ⟨o6, 0, none⟩) HL.out).trans g0
            have k1 := (h5.cell (p := ⟨o6, 1, none⟩) HL.out).trans g1
            have f0 : ∀ i, w4.frozen? ⟨o6, i, none⟩ = false := fun i => by simp [World.frozen?, (h5.block _ HL.out).trans HOa.out]
            have f0' := f0 0
            have f1' := f0 1
            clear h1 h3 h5 f0
            go_wp2_with fail
            go_meet
            case rel => exact ⟨out, q4, d4, rfl, rfl, HG⟩
          · obtain ⟨m12, hm12⟩ : ∃ m : Nat, xb % 12 = m := ⟨_, rfl⟩
            have hmt12 : (xb : Int).tmod 12 = (m12 : Int) := by rw [Int.tmod_eq_emod_of_nonneg (by omega)]; omega
            obtain ⟨m5, hm5⟩ : ∃ m : Nat, xc % 5 = m := ⟨_, rfl⟩
            have hmt5 : (xc : Int).tmod 5 = (m5 : Int) := by rw [Int.tmod_eq_emod_of_nonneg (by omega)]; omega
            have hm5l : m5 < 5 := by omega
            have hw5 : IntKind.i64.wrap (m5 : Int) = (m5 : Int) := by rw [IntKind.wrap_i64]; omega
            have hw6 : IntKind.i64.wrap (1 + (m5 : Int)) = 1 + (m5 : Int) := by rw [IntKind.wrap_i64]; omega
            obtain ⟨out, hout⟩ : ∃ out, moveA ep L (m12 : Int) (1 + (m5 : Int)) 5 = out := ⟨_, rfl⟩
            have CMv := Lib.hid (fun w h => hout ▸ HH.out.move ep L lp lc (m12 : Int) (1 + (m5 : Int)) 5 w h hlen)
            have HD := Lib.hid (show out.err = 0 → DoneA ep L 5 out from hout ▸ move_done HMay.out)
            clear hout
            have HF1 := Lib.hid (show o < wa.heap.size ∧ ¬ o = o6 from ⟨Nat.lt_of_lt_of_le ho3 HBa.out.size, by have := HNE.out; omega⟩)
            have HF2 := Lib.hid (show pb < wa.heap.size ∧ ¬ pb = o6 from ⟨Nat.lt_of_lt_of_le hpr HBa.out.size, by omega⟩)
            have HX0 := Lib.hid x0
            have HX1 := Lib.hid x1
            have HY1 := Lib.hid y1
            have HY2 := Lib.hid y2
            have hposk : (0 : Int) ≤ (k : Int) := by omega
            go_upto_region 14 with fail
            clear x0 x1 y0 y1 y2 g0 g1
            refine wp_region_put mixedAt (by kernel_rfl) [VP.eq (.agg #[.int .i64 ep, .slice lp L.length lc]), VP.eq (.int .i64 xb), VP.eq (.int .i64 (m12 : Int)), VP.eq (.slice (some ⟨pb, po, none⟩) n ca), VP.eq (.int .i64 k), VP.eq (.pointer (some ⟨pb, po + k * 3, none⟩)), VP.eq (.pointer (some ⟨pb, po + k * 3 + 2, none⟩)), VP.eq (.int .u8 xc), VP.eq (.int .u8 (m5 : Int)), VP.eq (.int .i64 (m5 : Int)), VP.eq (.int .i64 (1 + (m5 : Int))), vpRet out, vpRet out, vpAt out, vpGone out, VP.eq (.int .i64 out.err), VP.any, vpGone out, VP.eq (.int .i64 out.err)]
              16 13 (by kernel_rfl) (by decide) o6 [Value.int .i64 0, Value.slice none 0 0] 26 (0, 0) aggL HOa.out ?_ ?_ ?_ ?_
            · refine fun k v w' cs' cs'' => sta_list _ (fun vp hvp => ?_) k v w' o6 cs' (0, 0) cs''
              simp only [List.mem_cons, List.not_mem_nil, or_false] at hvp
              rcases hvp with rfl | rfl | rfl | rfl | rfl | rfl | rfl | rfl | rfl | rfl | rfl | rfl | rfl | rfl | rfl | rfl | rfl | rfl | rfl
              all_goals first | exact sta_eq _ | exact sta_any | exact sta_ret _ | exact sta_at _ | exact sta_gone _ | exact sta_bytes _ _
            · intro i opr Ls vals w' hi hL hdep hC hK hob hV hn
              have hlt : i < 19 := by have := (List.getElem?_eq_some_iff.1 hi).1; simpa using this
              generalize hA : frA _ _ Ls vals = a'
              have hT0 : a'.tmps.getD 0 undef = .slice (some ⟨pb, po, none⟩) n ca := by rw [← hA, frA_base (by kernel_rfl)]; rfl
              have hT3 : a'.tmps.getD 3 undef = .pointer (some ⟨o, 0, none⟩) := by rw [← hA, frA_base (by kernel_rfl)]; rfl
              have hT4 : a'.tmps.getD 4 undef = .int .i64 k := by rw [← hA, frA_base (by kernel_rfl)]; rfl
              have hT5 : a'.tmps.getD 5 undef = .int .i64 xb := by rw [← hA, frA_base (by kernel_rfl)]; rfl
              have hT6 : a'.tmps.getD 6 undef = .pointer (some ⟨o6, 0, none⟩) := by rw [← hA, frA_base (by kernel_rfl)]; rfl
              have hD := Lib.hid (fun k t (hk : Ls k = true) (ht : dstOf _ k = some t) => hA ▸ frA_done (by kernel_rfl) (vals := vals) hk ht)
              clear hA
              have x0' := (hK.cell (p := ⟨o, 0, none⟩) HF1.out.1 HF1.out.2).trans HX0.out
              have x1' := (hK.cell (p := ⟨o, 1, none⟩) HF1.out.1 HF1.out.2).trans HX1.out
              have y1' := (hK.cell (p := ⟨pb, po + k * 3 + 1, none⟩) HF2.out.1 HF2.out.2).trans HY1.out
              have y2' := (hK.cell (p := ⟨pb, po + k * 3 + 2, none⟩) HF2.out.1 HF2.out.2).trans HY2.out
              have hrow' := HRa.out.kept hK HNP.out
              obtain rfl | rfl | rfl | rfl | rfl | rfl | rfl | rfl | rfl | rfl | rfl | rfl | rfl | rfl | rfl | rfl | rfl | rfl : i = 0 ∨ i = 1 ∨ i = 2 ∨ i = 3 ∨ i = 4 ∨ i = 5 ∨ i = 6 ∨ i = 7 ∨ i = 8 ∨ i = 9 ∨ i = 10 ∨ i = 11 ∨ i = 12 ∨ i = 13 ∨ i = 14 ∨ i = 15 ∨ i = 17 ∨ i = 18 := by omega
              all_goals
                injection hi with hi
                subst hi
                try simp [Region.binds] at hdep
              · skip
                exact step_run rfl (v := .agg #[.int .i64 ep, .slice lp L.length lc]) (w' := w') (by go_simp) ⟨rfl, Below.refl _ _⟩
              · skip
                exact step_run rfl (v := .int .i64 xb) (w' := w') (by go_simp) ⟨rfl, Below.refl _ _⟩
              · skip
                have d38 := hD.out 1 38 (by simp [hdep]) rfl
                rw [show vals 1 = _ from hV 1 (by simp [hdep]) (by decide)] at d38
                exact step_run rfl (v := .int .i64 (m12 : Int)) (w' := w') (by go_simp) ⟨rfl, Below.refl _ _⟩
              · skip
                exact step_run rfl (v := .slice (some ⟨pb, po, none⟩) n ca) (w' := w') (by go_simp) ⟨rfl, Below.refl _ _⟩
              · skip
                exact step_run rfl (v := .int .i64 k) (w' := w') (by go_simp) ⟨rfl, Below.refl _ _⟩
              · skip
                have d40 := hD.out 3 40 (by simp [hdep]) rfl
                rw [show vals 3 = _ from hV 3 (by simp [hdep]) (by decide)] at d40
                have d41 := hD.out 4 41 (by simp [hdep]) rfl
                rw [show vals 4 = _ from hV 4 (by simp [hdep]) (by decide)] at d41
                exact step_run rfl (v := .pointer (some ⟨pb, po + k * 3, none⟩)) (w' := w') (by go_simp) ⟨rfl, Below.refl _ _⟩
              · skip
                have d42 := hD.out 5 42 (by simp [hdep]) rfl
                rw [show vals 5 = _ from hV 5 (by simp [hdep]) (by decide)] at d42
                exact step_run rfl (v := .pointer (some ⟨pb, po + k * 3 + 2, none⟩)) (w' := w') (by go_simp) ⟨rfl, Below.refl _ _⟩
              · skip
                have d43 := hD.out 6 43 (by simp [hdep]) rfl
                rw [show vals 6 = _ from hV 6 (by simp [hdep]) (by decide)] at d43
                exact step_run rfl (v := .int .u8 xc) (w' := w') (by go_simp) ⟨rfl, Below.refl _ _⟩
              · skip
                have d44 := hD.out 7 44 (by simp [hdep]) rfl
                rw [show vals 7 = _ from hV 7 (by simp [hdep]) (by decide)] at d44
                exact step_run rfl (v := .int .u8 (m5 : Int)) (w' := w') (by go_simp) ⟨rfl, Below.refl _ _⟩
              · skip
                have d45 := hD.out 8 45 (by simp [hdep]) rfl
                rw [show vals 8 = _ from hV 8 (by simp [hdep]) (by decide)] at d45
                exact step_run rfl (v := .int .i64 (m5 : Int)) (w' := w') (by go_simp) ⟨rfl, Below.refl _ _⟩
              · skip
                have d46 := hD.out 9 46 (by simp [hdep]) rfl
                rw [show vals 9 = _ from hV 9 (by simp [hdep]) (by decide)] at d46
                exact step_run rfl (v := .int .i64 (1 + (m5 : Int))) (w' := w') (by go_simp) ⟨rfl, Below.refl _ _⟩
              · skip
                have d37 := hD.out 0 37 (by simp [hdep]) rfl
                rw [show vals 0 = _ from hV 0 (by simp [hdep]) (by decide)] at d37
                have d39 := hD.out 2 39 (by simp [hdep]) rfl
                rw [show vals 2 = _ from hV 2 (by simp [hdep]) (by decide)] at d39
                have d47 := hD.out 10 47 (by simp [hdep]) rfl
                rw [show vals 10 = _ from hV 10 (by simp [hdep]) (by decide)] at d47
                exact step_enter (f := 11) (args := #[.agg #[.int .i64 ep, .slice lp L.length lc], .int .i64 (m12 : Int), .int .i64 (1 + (m5 : Int)), .int .i64 5]) (w' := w') rfl (by go_simp) ((CMv.out w' hrow').mono fun e w'' ⟨p7, c7, q7, d7, he, h1, _, ⟨h3, _⟩, h5⟩ => ⟨_, he, ⟨p7, c7, q7, d7, rfl, h1, h3⟩, h5⟩)
              · skip
                have d48 := hD.out 11 48 (by simp [hdep]) rfl
                obtain ⟨pp, cc, qq, dd, ev, g1, g2⟩ : (vpRet out).f (vals 11) w' := hV 11 (by simp [hdep]) (by decide)
                rw [ev] at d48
                exact step_run rfl (v := .tuple #[.agg #[.int .i64 out.ep, .slice pp out.L.length cc], .slice qq out.gone.length dd, .int .i64 out.err]) (w' := w') (by go_simp) ⟨⟨pp, cc, qq, dd, rfl, g1, g2⟩, Below.refl _ _⟩
              · skip
                have d36 := hD.out 12 36 (by simp [hdep]) rfl
                obtain ⟨pp, cc, qq, dd, ev, g1, g2⟩ : (vpRet out).f (vals 12) w' := hV 12 (by simp [hdep]) (by decide)
                rw [ev] at d36
                exact step_run rfl (v := .agg #[.int .i64 out.ep, .slice pp out.L.length cc]) (w' := w') (by go_simp) ⟨⟨pp, cc, rfl, g1, g2⟩, Below.refl _ _⟩
              · skip
                have d36 := hD.out 12 36 (by simp [hdep]) rfl
                obtain ⟨pp, cc, qq, dd, ev, g1, g2⟩ : (vpRet out).f (vals 12) w' := hV 12 (by simp [hdep]) (by decide)
                rw [ev] at d36
                exact step_run rfl (v := .slice qq out.gone.length dd) (w' := w') (by go_simp) ⟨⟨qq, dd, rfl⟩, Below.refl _ _⟩
              · skip
                have d36 := hD.out 12 36 (by simp [hdep]) rfl
                obtain ⟨pp, cc, qq, dd, ev, g1, g2⟩ : (vpRet out).f (vals 12) w' := hV 12 (by simp [hdep]) (by decide)
                rw [ev] at d36
                exact step_run rfl (v := .int .i64 out.err) (w' := w') (by go_simp) ⟨rfl, Below.refl _ _⟩
              · skip
                have d50 := hD.out 14 50 (by simp [hdep]) rfl
                obtain ⟨qq, dd, ev⟩ : (vpGone out).f (vals 14) w' := hV 14 (by simp [hdep]) (by decide)
                rw [ev] at d50
                exact step_run rfl (v := .slice qq out.gone.length dd) (w' := w') (by go_simp) ⟨⟨qq, dd, rfl⟩, Below.refl _ _⟩
              · skip
                have d51 := hD.out 15 51 (by simp [hdep]) rfl
                rw [show vals 15 = _ from hV 15 (by simp [hdep]) (by decide)] at d51
                exact step_run rfl (v := .int .i64 out.err) (w' := w') (by go_simp) ⟨rfl, Below.refl _ _⟩
            · intro opr Ls vals w' hi hL hdep hC hK hob hV
              generalize hA : frA _ _ Ls vals = a'
              have hT0 : a'.tmps.getD 0 undef = .slice (some ⟨pb, po, none⟩) n ca := by rw [← hA, frA_base (by kernel_rfl)]; rfl
              have hT3 : a'.tmps.getD 3 undef = .pointer (some ⟨o, 0, none⟩) := by rw [← hA, frA_base (by kernel_rfl)]; rfl
              have hT4 : a'.tmps.getD 4 undef = .int .i64 k := by rw [← hA, frA_base (by kernel_rfl)]; rfl
              have hT5 : a'.tmps.getD 5 undef = .int .i64 xb := by rw [← hA, frA_base (by kernel_rfl)]; rfl
              have hT6 : a'.tmps.getD 6 undef = .pointer (some ⟨o6, 0, none⟩) := by rw [← hA, frA_base (by kernel_rfl)]; rfl
              have hD := Lib.hid (fun k t (hk : Ls k = true) (ht : dstOf _ k = some t) => hA ▸ frA_done (by kernel_rfl) (vals := vals) hk ht)
              clear hA
              injection hi with hi
              subst hi
              try simp [Region.binds] at hdep
              have d49 := hD.out 13 49 hL rfl
              obtain ⟨pp, cc, ev, g1, g2⟩ : (vpAt out).f (vals 13) w' := hV 13 hL (by decide)
              rw [ev] at d49 ⊢
              have z0 : w'.cell? ⟨o6, 0, none⟩ = some (.int .i64 0) := by simp [World.cell?, hob]
              have z1 : w'.cell? ⟨o6, 1, none⟩ = some (.slice none 0 0) := by simp [World.cell?, hob]
              have f0 : w'.frozen? ⟨o6, 0, none⟩ = false := by simp [World.frozen?, hob]
              have f1 : w'.frozen? ⟨o6, 1, none⟩ = false := by simp [World.frozen?, hob]
              clear hob hV
              exact stepI_skip rfl (w' := layCells w' o6 0 (boxV out.ep pp out.L.length cc)) (by unfold boxV layCells layCells layCells; go_simp) ⟨rfl, rfl⟩
            · intro vals w4 hK hV hob
              have e0 : vals 0 = .agg #[.int .i64 ep, .slice lp L.length lc] := hV 0 (by decide) (by decide)
              have e1 : vals 1 = .int .i64 xb := hV 1 (by decide) (by decide)
              have e2 : vals 2 = .int .i64 (m12 : Int) := hV 2 (by decide) (by decide)
              have e3 : vals 3 = .slice (some ⟨pb, po, none⟩) n ca := hV 3 (by decide) (by decide)
              have e4 : vals 4 = .int .i64 k := hV 4 (by decide) (by decide)
              have e5 : vals 5 = .pointer (some ⟨pb, po + k * 3, none⟩) := hV 5 (by decide) (by decide)
              have e6 : vals 6 = .pointer (some ⟨pb, po + k * 3 + 2, none⟩) := hV 6 (by decide) (by decide)
              have e7 : vals 7 = .int .u8 xc := hV 7 (by decide) (by decide)
              have e8 : vals 8 = .int .u8 (m5 : Int) := hV 8 (by decide) (by decide)
              have e9 : vals 9 = .int .i64 (m5 : Int) := hV 9 (by decide) (by decide)
              have e10 : vals 10 = .int .i64 (1 + (m5 : Int)) := hV 10 (by decide) (by decide)
              obtain ⟨p11, c11, q11, d11, e11, -, -⟩ : (vpRet out).f (vals 11) w4 := hV 11 (by decide) (by decide)
              obtain ⟨p12, c12, q12, d12, e12, -, -⟩ : (vpRet out).f (vals 12) w4 := hV 12 (by decide) (by decide)
              obtain ⟨p13, c13, e13, h1, h3⟩ : (vpAt out).f (vals 13) w4 := hV 13 (by decide) (by decide)
              obtain ⟨q14, d14, e14⟩ : (vpGone out).f (vals 14) w4 := hV 14 (by decide) (by decide)
              have e15 : vals 15 = .int .i64 out.err := hV 15 (by decide) (by decide)
              obtain ⟨q17, d17, e17⟩ : (vpGone out).f (vals 17) w4 := hV 17 (by decide) (by decide)
              have e18 : vals 18 = .int .i64 out.err := hV 18 (by decide) (by decide)
              rw [e13] at hob
              have HG := Lib.hid (show GoM wa o6 ep L out w4 from ⟨hK, ⟨p13, c13, hob, h1, h3⟩, HD.out⟩)
              simp only [putsL, Act.put, List.setIfInBounds_toArray, List.set_cons_zero, List.set_cons_succ, e0, e1, e2, e3, e4, e5, e6, e7, e8, e9, e10, e11, e12, e13, e14, e15, e17, e18]
              clear e0 e1 e2 e3 e4 e5 e6 e7 e8 e9 e10 e11 e12 e13 e14 e15 e17 e18 hK hV hob h1 h3
              go_wp2_with fail
              go_meet
              case rel => exact ⟨out, q17, d17, rfl, rfl, HG⟩
        case rest =>
          obtain ⟨⟨oe, oL, og, oer⟩, q4, d4, rfl, rfl, HG⟩ := hcut
          have HWo := Lib.hid (show w.heap.size ≤ o6 ∧ o6 ≤ wa.heap.size ∧ o < wa.heap.size from ⟨ho6 ▸ HI.out.bel.size, Nat.le_of_lt HL.out, Nat.lt_of_lt_of_le ho3 HBa.out.size⟩)
          have HSt := Lib.hid (show GoI w o wc from ⟨HI.out.bel.trans ((HBa.out.mono HI.out.bel.size).trans (HG.out.kept.below (fun j hj => by rw [hj]; exact HWo.out.1) (Nat.le_trans HWo.out.1 HWo.out.2.1))), ep, L, lp, lc, (HG.out.kept.block o HWo.out.2.2 (fun h => by have := HNE.out; have h : o = o6 := h; omega)).trans HO3.out, HRa.out.kept HG.out.kept HNP.out, HTa.out.kept HG.out.kept HNP.out, HMay.out⟩)
          simp only
          by_cases he : oer = 0
          · subst he
            have HD := Lib.hid (HG.out.done rfl)
            obtain ⟨p5, c5, hob5, hr5, ht5⟩ := HG.out.obj
            simp only [boxV] at hob5 hr5 ht5
            have h1e : oe = ep + 1 := HD.out.epo
            subst h1e
            have HR5 := Lib.hid hr5
            have HT5 := Lib.hid ht5
            have HB5 := Lib.hid hob5
            have hl5 : oL.length ≤ 1000000 := by have h := HD.out.may.ln; simp only at h; omega
            have CY := Lib.hid (HH.out.may (ep + 1) oL p5 c5 5 wc HR5.out hl5)
            rw [show mayAB 5 (ep + 1) oL = true from (mayAB_iff _ _ _).2 HD.out.may] at CY
            obtain ⟨le, hle⟩ : ∃ le, oL.length = le := ⟨_, rfl⟩
            have HLE := Lib.hid hle
            rw [hle] at hob5 HB5 CY hl5
            obtain ⟨lg, hlg⟩ : ∃ lg, og.length = lg := ⟨_, rfl⟩
            have hg1 : 1 ≤ lg := by have h := HD.out.gone; simp only at h; omega
            rw [hlg]
            obtain ⟨ln, hln⟩ : ∃ ln, L.length = ln := ⟨_, rfl⟩
            have HLN := Lib.hid hln
            rw [hln] at hlen
            have HO4 := Lib.hid (HSt.out)
            have hb3c := (HG.out.kept.block o HWo.out.2.2 (fun h => by have := HNE.out; have h : o = o6 := h; omega)).trans HO3.out
            have hep : ep < 268435455 := HD.out.bnd
            have hep1 : 1 ≤ ep := HMay.out.ep1
            have a0 : wc.cell? ⟨o6, 0, none⟩ = some (.int .i64 (ep + 1)) := by simp [World.cell?, hob5]
            have a1 : wc.cell? ⟨o6, 1, none⟩ = some (.slice p5 le c5) := by simp [World.cell?, hob5]
            have b0 : wc.cell? ⟨o, 0, none⟩ = some (.int .i64 ep) := by simp [World.cell?, hb3c, boxV]
            have b1 : wc.cell? ⟨o, 1, none⟩ = some (.slice lp ln lc) := by simp [World.cell?, hb3c, boxV, hln]
            have hlc6 : o6 < wc.heap.size := (Array.getElem?_eq_some_iff.1 hob5).1
            have hlc3 : o < wc.heap.size := (Array.getElem?_eq_some_iff.1 hb3c).1
            clear x0 x1 g0 g1 y0 y1 y2 hob5 hr5 ht5 hle hlg hln hb3c
            go_wp2_with fail
            refine CY.out.mono ?_
            rintro e wd ⟨rfl, hbd⟩
            have HBd := Lib.hid hbd
            have A0 := (hbd.cell (p := ⟨o6, 0, none⟩) hlc6).trans a0
            have A1 := (hbd.cell (p := ⟨o6, 1, none⟩) hlc6).trans a1
            have B0 := (hbd.cell (p := ⟨o, 0, none⟩) hlc3).trans b0
            have B1 := (hbd.cell (p := ⟨o, 1, none⟩) hlc3).trans b1
            clear a0 a1 b0 b1 hbd
            have hgz : ¬ (lg : Int) < 1 := by omega
            go_upto_region 22 with fail
            have HRc := Lib.hid (HRa.out.kept HG.out.kept HNP.out)
            have HLC := Lib.hid (And.intro hlc6 hlc3)
            have HA := Lib.hid (And.intro A0 (And.intro A1 (And.intro B0 B1)))
            clear A0 A1 B0 B1 hlc6 hlc3
            go_wp2_with fail
            go_loopg [9, 10, 11] le (fun gg s9 s10 s11 wx => ∃ kk : Nat, kk ≤ le ∧ le - kk ≤ gg ∧ s9 = .int .i64 kk ∧ Hid (Below wd.heap.size wd wx))
            case atStart => exact ⟨0, Nat.zero_le _, by omega, rfl, Lib.hid (Below.refl _ wd)⟩
            case round =>
              obtain ⟨kk, hkk, hgk, rfl, BX⟩ := hrel
              obtain ⟨wv, rfl⟩ : ∃ wv, wv = wr := ⟨_, rfl⟩
              have hd6 : o6 < wd.heap.size := Nat.lt_of_lt_of_le HLC.out.1 HBd.out.size
              have hd3 : o < wd.heap.size := Nat.lt_of_lt_of_le HLC.out.2 HBd.out.size
              have a0 := (BX.out.cell (p := ⟨o6, 0, none⟩) hd6).trans HA.out.1
              have a1 := (BX.out.cell (p := ⟨o6, 1, none⟩) hd6).trans HA.out.2.1
              have b1 := (BX.out.cell (p := ⟨o, 1, none⟩) hd3).trans HA.out.2.2.2
              rcases Nat.lt_or_ge kk le with hltk | hgek
              · have hltkz : (kk : Int) < (le : Int) := by omega
                have hpos : (0 : Int) ≤ (kk : Int) := by omega
                have hkl : kk < oL.length := by rw [HLE.out]; exact hltk
                obtain ⟨y, hy⟩ : ∃ y, oL.getD kk default = y := ⟨_, rfl⟩
                obtain ⟨qb, qo, rfl, hqb, hcy⟩ := HR5.out.cells (HBd.out.trans (BX.out.mono HBd.out.size)) hkl
                rw [hy] at hcy
                have HNEW := Lib.hid (show y ∈ L ∨ y.e = ep + 1 from HD.out.new y (hy ▸ get_mem hkl))
                go_wp2_with fail
                go_loopg [10, 11] ln (fun gg s10 s11 wy => ∃ j : Nat, ∃ bo : Bool, j ≤ ln ∧ ln - j ≤ gg ∧ s11 = .int .i64 j ∧ s10 = .bool bo ∧ Hid (bo = true ↔ y ∈ L.take j) ∧ Hid (Below wv.heap.size wv wy))
                case atStart => exact ⟨0, false, Nat.zero_le _, by omega, rfl, rfl, Lib.hid (by simp), Lib.hid (Below.refl _ _)⟩
                case round =>
                  obtain ⟨j, bo, hj, hgj, rfl, rfl, HBO, BY⟩ := hrel
                  have hv6 : o6 < wv.heap.size := Nat.lt_of_lt_of_le hd6 BX.out.size
                  have hv3 : o < wv.heap.size := Nat.lt_of_lt_of_le hd3 BX.out.size
                  have HVC := Lib.hid (HBd.out.trans ((BX.out.trans (BY.out.mono BX.out.size)).mono HBd.out.size))
                  have A0 := (BY.out.cell (p := ⟨o6, 0, none⟩) hv6).trans a0
                  have A1 := (BY.out.cell (p := ⟨o6, 1, none⟩) hv6).trans a1
                  have B1 := (BY.out.cell (p := ⟨o, 1, none⟩) hv3).trans b1
                  have hqv : qb < wv.heap.size := Nat.lt_of_lt_of_le hqb (Nat.le_trans HBd.out.size BX.out.size)
                  obtain ⟨⟨yf, yt⟩, yn, ye⟩ := y
                  have t0 := (BY.out.cell (p := ⟨qb, qo + kk * 4 + 0, none⟩) hqv).trans (hcy 0 (by decide))
                  have t1 := (BY.out.cell (p := ⟨qb, qo + kk * 4 + 1, none⟩) hqv).trans (hcy 1 (by decide))
                  have t2 := (BY.out.cell (p := ⟨qb, qo + kk * 4 + 2, none⟩) hqv).trans (hcy 2 (by decide))
                  have t3 := (BY.out.cell (p := ⟨qb, qo + kk * 4 + 3, none⟩) hqv).trans (hcy 3 (by decide))
                  simp only [KS, Nat.add_zero, List.getElem?_cons_zero, List.getElem?_cons_succ] at t0 t1 t2 t3
                  rcases Nat.lt_or_ge j ln with hltj | hgej
                  · have hltjz : (j : Int) < (ln : Int) := by omega
                    have hposj : (0 : Int) ≤ (j : Int) := by omega
                    have hjl : j < L.length := by rw [HLN.out]; exact hltj
                    obtain ⟨x, hx⟩ : ∃ x, L.getD j default = x := ⟨_, rfl⟩
                    obtain ⟨rb, ro, rfl, hrb, hcx⟩ := HRc.out.cells HVC.out hjl
                    rw [hx] at hcx
                    have HTK := Lib.hid (show L.take (j + 1) = L.take j ++ [x] by
                      rw [List.take_succ_eq_append_getElem hjl, ← hx]
                      simp [List.getD, hjl])
                    obtain ⟨⟨xf, xt⟩, xn, xe⟩ := x
                    have r0 := hcx 0 (by decide)
                    have r1 := hcx 1 (by decide)
                    have r2 := hcx 2 (by decide)
                    have r3 := hcx 3 (by decide)
                    simp only [KS, Nat.add_zero, List.getElem?_cons_zero, List.getElem?_cons_succ] at r0 r1 r2 r3
                    clear hcx hx
                    obtain ⟨bq, hbq⟩ : ∃ bq, decide ((⟨⟨xf, xt⟩, xn, xe⟩ : Sd) = ⟨⟨yf, yt⟩, yn, ye⟩) = bq := ⟨_, rfl⟩
                    have HQ := Lib.hid (show bq = true ↔ (⟨⟨xf, xt⟩, xn, xe⟩ : Sd) = ⟨⟨yf, yt⟩, yn, ye⟩ from by rw [← hbq, decide_eq_true_eq])
                    have hq : ∀ w, (Op.equalIn 10000 40 (.agg #[.string xf, .string xt, .int .i64 xn, .int .i64 xe]) (.agg #[.string yf, .string yt, .int .i64 yn, .int .i64 ye])).run Try.prog w = .ok bq w := fun w => by rw [← hbq]; exact eq_sd 9997 ⟨⟨xf, xt⟩, xn, xe⟩ ⟨⟨yf, yt⟩, yn, ye⟩ w
                    clear hbq
                    cases bo with
                    | true =>
                      have HIn := Lib.hid (HBO.out.1 rfl)
                      clear HBO
                      go_upto_region 29 with fail
                      go_quiet (fail)
                      go_wp2_with fail
                      go_roundg (ln - (j + 1))
                      case measure => omega
                      case rel => exact ⟨j + 1, true, by omega, by omega, by go_num, rfl, Lib.hid ⟨fun _ => by rw [HTK.out]; exact List.mem_append_left _ HIn.out, fun _ => rfl⟩, Lib.hid (BY.out.trans ((below_dn _ _).mono BY.out.size))⟩
                    | false =>
                      have HOut := Lib.hid (show ¬ _ ∈ L.take j from fun h => by have := HBO.out.2 h; cases this)
                      clear HBO
                      go_upto_region 29 with fail
                      go_quiet (fail)
                      go_wp2_with fail
                      go_roundg (ln - (j + 1))
                      case measure => omega
                      case rel => exact ⟨j + 1, bq, by omega, by omega, by go_num, rfl, Lib.hid (by
                        rw [HTK.out, List.mem_append, HQ.out]
                        exact ⟨fun h => Or.inr (by rw [h]; exact List.mem_singleton.2 rfl), fun h => h.elim (fun h => absurd h HOut.out) fun h => (List.mem_singleton.1 h).symm⟩), Lib.hid (BY.out.trans ((below_dn _ _).mono BY.out.size))⟩
                  · have hgejz : ¬ (j : Int) < (ln : Int) := by omega
                    obtain rfl : j = ln := by omega
                    have HT := Lib.hid (show bo = true ↔ _ ∈ L from by have := HBO.out; rw [List.take_of_length_le (by rw [HLN.out]; exact Nat.le_refl _)] at this; exact this)
                    clear HBO
                    cases bo with
                    | true =>
                      go_upto_region 30 with fail
                      go_quiet (fail)
                      go_wp2_with fail
                      go_roundg (le - (kk + 1))
                      case measure => omega
                      case rel => exact ⟨kk + 1, by omega, by omega, by go_num, Lib.hid (BX.out.trans ((BY.out.trans ((below_dn _ _).mono BY.out.size)).mono BX.out.size))⟩
                    | false =>
                      have hye : ye = ep + 1 := HNEW.out.resolve_left fun h => by have := HT.out.2 h; cases this
                      subst hye
                      go_upto_region 30 with fail
                      go_quiet (fail)
                      go_wp2_with fail
                      go_roundg (le - (kk + 1))
                      case measure => omega
                      case rel => exact ⟨kk + 1, by omega, by omega, by go_num, Lib.hid (BX.out.trans ((BY.out.trans ((below_dn _ _).mono BY.out.size)).mono BX.out.size))⟩
              · have hgekz : ¬ (kk : Int) < (le : Int) := by omega
                have HSv := Lib.hid (HBd.out.trans (BX.out.mono HBd.out.size))
                have hcx := HSt.out.bel.trans (HSv.out.mono HSt.out.bel.size)
                obtain ⟨cs3, fz3, hst3⟩ : ∃ cs fz, wv.heap[o]? = some (.cells cs 26 fz) ∧ cs = (boxV ep lp L.length lc).toArray ∧ fz = (0, 0) := ⟨_, _, (HSv.out.block o HLC.out.2).trans ((HG.out.kept.block o HWo.out.2.2 (fun h => by have := HNE.out; have h : o = o6 := h; omega)).trans HO3.out), rfl, rfl⟩
                obtain ⟨hst3, rfl, rfl⟩ := hst3
                have HF := Lib.hid (show GoI w o (layCells wv o 0 (boxV (ep + 1) p5 oL.length c5)) from
                  ⟨layCells_below o HO.out _ _ _ hcx, ep + 1, oL, p5, c5, layCells_all _ hst3 rfl, (HR5.out.below HSv.out).layCells ((HT5.out.below HSv.out).ne hst3 (by decide)) _ _, (HT5.out.below HSv.out).layCells hst3 (by decide) _ _, HD.out.may⟩)
                have b0 : wv.cell? ⟨o, 0, none⟩ = some (.int .i64 ep) := (BX.out.cell (p := ⟨o, 0, none⟩) hd3).trans HA.out.2.2.1
                have f0 : ∀ i, wv.frozen? ⟨o, i, none⟩ = false := fun i => by simp [World.frozen?, hst3]
                have f0' := f0 0
                have f1' := f0 1
                rw [HLE.out] at HF
                clear f0 hst3 hcx
                go_wp2_with fail
                go_roundg (n - (k + 1))
                case measure => omega
                case rel => exact ⟨k + 1, by omega, by omega, by go_num, HF⟩
          · go_wp2_with fail
            go_roundg (n - (k + 1))
            case measure => omega
            case rel => exact ⟨k + 1, by omega, by omega, by go_num, HSt⟩
      · have hgez : ¬ (k : Int) < (n : Int) := by omega
        go_wp2_with fail
        go_ret
        exact ⟨rfl, HI.out.bel⟩
end Go.Proofs.Ytodcnemnajlbdaa
