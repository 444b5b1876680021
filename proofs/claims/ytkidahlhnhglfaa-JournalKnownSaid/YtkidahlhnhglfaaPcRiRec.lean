/-
  Layer parcel: Record of a reader; ReadItems at records.
-/
import Derived.Test.YtkidahlhnhglfaaPcRecs
import Derived.Laws.EntriesVeiled
import Derived.WalkSpells
namespace Go.Proofs.Ytkidahlhnhglfaa
open Go.RowKit

/-- what Record answers. -/
def RetRec1 (gp : Nat) (st : St) (w : World) (e : Ending) (w' : World) : Prop :=
  ∃ y : RecL, e = .returned (.agg #[.string (strB y.1), .string (strB y.2)]) ∧ RdAt w' gp (rdR recC st) ∧ Chg gp w w' ∧ (∀ r, rdR recC st = .ok r → y = rdV recC ([], []) st)
set_option maxHeartbeats 1000000 in
theorem rrecord_any (w : World) (g : Nat) (st : St) (h : RdAt w g st) : Calls Try.prog 48 #[.pointer (some ⟨g, 0, none⟩)] w (RetRec1 g st w) := by
  have hgl := h.lt
  have HF := Lib.hid (show ∀ w', RdAt w' g (rdR textC (rdR textC st)) → Chg g w w' → RetRec1 g st w (.returned (.agg #[.string (strB (rdV textC [] st)), .string (strB (rdV textC [] (rdR textC st)))])) w' from fun w' h1 h2 =>
    ⟨(rdV textC [] st, rdV textC [] (rdR textC st)), rfl, by rw [show rdR recC st = rdR textC (rdR textC st) from rdR_pair textC textC st]; exact h1, h2, fun r hr => (rdV_pair textC textC ([], []) st hr).symm⟩)
  have hal : Below w.heap.size w (w.alloc (.cells #[.string ⟨#[]⟩, .string ⟨#[]⟩] 57)) := (Below.refl _ _).alloc (Nat.le_refl _) _
  have C1 := Lib.hid (text_any _ g st (h.below hal))
  have C2 := Lib.hid (fun w1 h1 => text_any w1 g (rdR textC st) h1)
  have HA := Lib.hid hal
  have HG := Lib.hid hgl
  generalize RetRec1 g st w = R at HF ⊢
  generalize strB (rdV textC [] st) = t1 at HF C1
  generalize strB (rdV textC [] (rdR textC st)) = t2 at HF C2
  generalize rdR textC (rdR textC st) = S2 at HF C2
  generalize rdR textC st = S1 at C1 C2
  clear h hal hgl
  go_enter Try.func48, Try.ntmps48
  go_wp2_with fail
  refine C1.out.mono ?_
  rintro e w1 ⟨rfl, hr1, hc1⟩
  have HC1 := Lib.hid hc1
  have C3 := Lib.hid (C2.out w1 hr1)
  clear hr1 hc1
  go_wp2_with fail
  refine C3.out.mono ?_
  rintro e w2 ⟨rfl, hr2, hc2⟩
  have HC2 := Lib.hid (HC1.out.trans hc2)
  have HB2 := Lib.hid (show w2.heap[w.heap.size]? = some (.cells #[.string ⟨#[]⟩, .string ⟨#[]⟩] 57 (0, 0)) by
    rw [HC2.out.block w.heap.size (by simp) (by have := HG.out; omega)]; exact new_block _ _ _)
  have hz := hr2.lt
  have k0 := cell_at HB2.out 0
  have k1 := frozen_at HB2.out 0
  have h3 := set_at HB2.out 0 (.string t1)
  have k2 := cell_at h3 1
  have k3 := frozen_at h3 1
  have h4 := set_at h3 1 (.string t2)
  have q0 := cell_at h4 0
  have q1 := cell_at h4 1
  have HR := Lib.hid (HF.out ((w2.setCell ⟨w.heap.size, 0, none⟩ (.string t1)).setCell ⟨w.heap.size, 1, none⟩ (.string t2)) ⟨hr2.bd, by
      rw [Below.heap_setCell _ _ _ _ (by have := HG.out; show g ≠ w.heap.size; omega), Below.heap_setCell _ _ _ _ (by have := HG.out; show g ≠ w.heap.size; omega)]; exact hr2.at_⟩
    ⟨HC2.out.os.trans HA.out.os, HC2.out.tape.trans HA.out.tape, HC2.out.output.trans HA.out.output, by have := HC2.out.size; simp [World.setCell] at this ⊢; omega, fun k hk hg => by
      rw [Below.heap_setCell _ _ _ _ (by show k ≠ w.heap.size; omega), Below.heap_setCell _ _ _ _ (by show k ≠ w.heap.size; omega), HC2.out.block k (by simp; omega) hg, HA.out.block k hk]⟩)
  clear hr2 hc2 h3 h4 hz
  go_wp2_with fail
  refine bodyPost_ret (v := .agg #[.string t1, .string t2]) (by simp [results, Try.results48, go_sem, q0, q1]) rfl HR.out

/-- what ReadItems answers at Rec. -/
def RetItRec (w : World) (gp : Nat) (st : St) (e : Ending) (w' : World) : Prop :=
  ∃ v ys, e = .returned v ∧ OwnR w' w.heap.size v ys ∧ RdAt w' gp (rdR (Codec.list recC) st) ∧ Chg gp w w' ∧ (∀ r, rdR (Codec.list recC) st = .ok r → ys.map (fun y : RecL => y) = (rdV (Codec.list recC) [] st).map (fun y : RecL => y)) ∧ True
structure RiRec (w : World) (gp : Nat) (F : St) (L : List RecL) (N : Nat) (v : Value) (m : Nat) (wr : World) (s : St) (ys : List RecL) : Prop where
  own : OwnR wr w.heap.size v ys
  rd : RdAt wr gp s
  ch : Chg gp w wr
  pu : ItI recC ([], []) (fun y : RecL => y) (fun y : RecL => y) F L N m s ys
  ins : True

set_option maxHeartbeats 4000000 in
theorem readItemsRec {g : FuncId} {lb : Array Value} (eg : ∀ args w, (callFunc g args).run Try.prog w = .ok (.enter g args) w) (w : World) (gp : Nat) (st : St) (h : RdAt w gp st) (hl : (restS st).length ≤ 99999999)
    (hC : ∀ b r, rdR recC (.ok b) = .ok r → r.length + 1 ≤ b.length)
    (hone : ∀ w1 b, Chg gp w w1 → RdAt w1 gp (.ok b) → b.length ≤ (restS st).length → Calls Try.prog g (#[.pointer (some ⟨gp, 0, none⟩)] ++ lb) w1 (RetRec1 gp (.ok b) w1)) :
    Calls Try.prog 47 #[.pointer (some ⟨gp, 0, none⟩), .func (.func g) #[] lb] w (RetItRec w gp st) := by
  have hfn : ∀ w : World, (binOp .eql 90 (.func (.func g) #[] lb) .nilFunc).run Try.prog w = .ok (.bool false) w := fun _ => by kernel_rfl
  have hgl := h.lt
  have HF := Lib.hid (show ∀ v ys w', OwnR w' w.heap.size v ys → RdAt w' gp (rdR (Codec.list recC) st) → Chg gp w w' → (∀ r, rdR (Codec.list recC) st = .ok r → ys.map (fun y : RecL => y) = (rdV (Codec.list recC) [] st).map (fun y : RecL => y)) → True → RetItRec w gp st (.returned v) w' from fun v ys w' h1 h2 h3 h4 h5 => ⟨v, ys, rfl, h1, h2, h3, h4, h5⟩)
  have CN := Lib.hid (pcNumber_any w gp st h)
  obtain ⟨n, hn⟩ : ∃ n, rdV numC 0 st = n := ⟨_, rfl⟩
  obtain ⟨S, hS1⟩ : ∃ S, rdR numC st = S := ⟨_, rfl⟩
  obtain ⟨N, hN⟩ : ∃ N, (restS st).length = N := ⟨_, rfl⟩
  have hst := ItI.start (C := recC) (d := ([], [])) (g := (fun y : RecL => y)) (h := (fun y : RecL => y)) (N := N) hn hS1 (by rw [← hS1, ← hN]; exact rest_num st)
  have hnb : n ≤ 268435455 := hn ▸ rdV_num_le st
  have HERR := Lib.hid (show ∀ e0, S = .error e0 → rdR (Codec.list recC) st = .error e0 from fun e0 he => by
    obtain ⟨h1, _⟩ := list_seq recC ([], []) st
    rw [h1, hS1, he]; exact iterR_err _ _ _)
  obtain ⟨F, hF⟩ : ∃ F, rdR (Codec.list recC) st = F := ⟨_, rfl⟩
  obtain ⟨L, hL⟩ : ∃ L, (rdV (Codec.list recC) [] st).map (fun y : RecL => y) = L := ⟨_, rfl⟩
  rw [hF, hL] at HF hst
  rw [hF] at HERR
  rw [hn, hS1] at CN
  rw [hN] at hl
  have HST := Lib.hid hst
  have HONE := Lib.hid (hN ▸ hone)
  have HC := Lib.hid hC
  have HNL := Lib.hid hl
  have HG := Lib.hid hgl
  clear h hst hF hL hN hn hS1 hone hC hl hgl
  go_enter Try.func47, Try.ntmps47
  go_wp2_with fail
  refine CN.out.mono ?_
  rintro e w1 ⟨rfl, hr1, hc1⟩
  have hat1 := hr1.at_
  have c1 := cell_at hat1 1
  clear hat1
  have HR1 := Lib.hid hr1
  have HC1 := Lib.hid hc1
  clear hr1 hc1 CN
  cases S with
  | error e0 =>
    have h0 := HR1.out.bd e0 rfl
    have h0z : ((e0 : Int) != 0) = true := by simp; omega
    simp only [errS] at c1
    have HP := Lib.hid (HF.out (.slice none 0 0) [] w1 (OwnR.nil _ _) (by rw [HERR.out e0 rfl]; exact HR1.out) HC1.out (fun r hr => by rw [HERR.out e0 rfl] at hr; cases hr) trivial)
    clear h0
    go_wp2_with fail
    go_ret
    exact HP.out
  | ok b0 =>
    simp only [errS] at c1
    have HI := Lib.hid (show RiRec w gp F L N (.slice none 0 0) n w1 (.ok b0) [] from ⟨OwnR.nil _ _, HR1.out, HC1.out, HST.out, trivial⟩)
    clear HERR HST HR1 HC1
    go_wp2_with fail
    clear c1
    go_loopw [5, 6] (fun i v wr => ∃ (m : Nat) (s : St) (ys : List RecL), i = .int .i64 m ∧ m ≤ 268435455 ∧ Hid (RiRec w gp F L N v m wr s ys)) (fun i _ _ => (RowKit.intOf i).toNat)
    case atStart => exact ⟨n, .ok b0, [], rfl, hnb, HI⟩
    case round =>
      obtain ⟨m, s, ys, rfl, hmb, HR⟩ := hrel
      have hat := HR.out.rd.at_
      have c1 := cell_at hat 1
      clear hat
      cases s with
      | error e0 =>
        have h0 := HR.out.rd.bd e0 rfl
        have h0z : ((e0 : Int) == 0) = false := by simp; omega
        have h0y : ((e0 : Int) != 0) = true := by simp; omega
        simp only [errS] at c1
        have HP := Lib.hid (HF.out (.slice none 0 0) [] wr (OwnR.nil _ _) (by rw [HR.out.pu.err]; exact HR.out.rd) HR.out.ch (fun r hr => by rw [HR.out.pu.err] at hr; cases hr) trivial)
        clear h0
        by_cases hm : m = 0
        · subst hm
          go_wp2_with fail
          go_ret
          exact HP.out
        · have hmz : decide ((m : Int) > 0) = true := by simp; omega
          go_wp2_with fail
          go_ret
          exact HP.out
      | ok b =>
        simp only [errS] at c1
        by_cases hm : m = 0
        · subst hm
          have HP := Lib.hid (HF.out _ ys wr HR.out.own (HR.out.pu.done.1 ▸ HR.out.rd) HR.out.ch HR.out.pu.done.2 trivial)
          obtain ⟨q, d, rfl, -⟩ := HR.out.own.row
          go_wp2_with fail
          go_ret
          exact HP.out
        · have hmz : decide ((m : Int) > 0) = true := by simp; omega
          obtain ⟨m', rfl⟩ : ∃ m', m = m' + 1 := ⟨m - 1, by omega⟩
          have C1 := Lib.hid (HONE.out wr b HR.out.ch HR.out.rd (by have := HR.out.pu.lt ⟨b, rfl⟩; have e : (restS (.ok b)).length = b.length := rfl; omega))
          obtain ⟨q, d, rfl, -⟩ := HR.out.own.row
          have hls : ys.length ≤ 99999999 := by have := HR.out.pu.lt ⟨b, rfl⟩; have := HNL.out; omega
          have hls1 : ys.length + 1 ≤ 100000001 := by omega
          have HLS := Lib.hid hls
          clear hls1 hm
          obtain ⟨k, hk⟩ : ∃ k, ys.length = k := ⟨_, rfl⟩
          have HOW := Lib.hid (hk ▸ HR.out.own)
          rw [hk]
          have HK := Lib.hid hk
          clear hk hls
          go_wp2_with fail
          refine C1.out.mono ?_
          rintro e w3 ⟨⟨t1, t2⟩, rfl, hr3, hc3, hv3⟩
          have HC3 := Lib.hid (HR.out.ch.trans hc3)
          have HR3 := Lib.hid hr3
          have HO3 := Lib.hid (OwnR.chg HOW.out hc3 HG.out)
          have HV3 := Lib.hid hv3
          have HZ := Lib.hid (show w.heap.size ≤ w3.heap.size from HC3.out.size)
          have HAL := Lib.hid (show Below w3.heap.size w3 (w3.alloc (.cells #[.string (strB t1), .string (strB t2)] 57)) from (Below.refl _ _).alloc (Nat.le_refl _) _)
          have hsz4 : w.heap.size ≤ (w3.alloc (.cells #[.string (strB t1), .string (strB t2)] 57)).heap.size := by simp; have := HZ.out; omega
          have hls4 : ys.length ≤ 1000000000000 := by have := HLS.out; omega
          have ho4 := HO3.out.alloc (.cells #[.string (strB t1), .string (strB t2)] 57)
          have x0 := cell_at (new_block w3 #[.string (strB t1), .string (strB t2)] 57) 0
          have x1 := cell_at (new_block w3 #[.string (strB t1), .string (strB t2)] 57) 1
          clear hr3 hc3 hv3
          go_wp2_with (at_builtin; refine wpList_push_rec rfl _ _ rfl w.heap.size (.slice q k d) ys rfl ho4 w3.heap.size 1 (t1, t2) rfl x0 x1 hls4 hsz4 ?_)
          intro v4 w4 hown4 hgrow
          clear ho4 x0 x1
          have HI4 := Lib.hid (show RiRec w gp F L N v4 m' w4 (rdR recC (.ok b)) (ys ++ [(t1, t2)]) from by
            have hne : some gp ≠ (Value.slice q k d).ownBlock := fun e => by
              have := HO3.out.lt gp e.symm
              have := HG.out
              omega
            exact ⟨hown4, (HR3.out.below HAL.out).grown hgrow hne, Chg.grown hgrow (HC3.out.trans (Chg.of_below HAL.out)) (fun b hb => HO3.out.lt b hb), HR.out.pu.step (HC.out b) HV3.out, trivial⟩)
          clear hown4 hgrow
          go_wp2_with fail
          go_roundw
          case rel => exact ⟨m', _, _, by go_num, by omega, HI4⟩
          case measure => simp [RowKit.intOf]
end Go.Proofs.Ytkidahlhnhglfaa
