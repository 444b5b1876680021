/-
  Layer grove: GroveTexts: its order, and what gathers the keys that are shown.
-/
import Derived.Test.YtaghflionakhhaaGvAwake
import Derived.Test.YtaghflionakhhaaGvGoSi
import Derived.Test.YtaghflionakhhaaGvTxM
namespace Go.Proofs.Ytaghflionakhhaa
open Go.RowKit Go.Gz

set_option maxRecDepth 100000 in
theorem tx_ord : OrdSi 18 cS (fun _ => True) where
  eg := fun _ _ => rfl
  hF := fun a b w _ _ => by
    unfold cS
    cases h1 : slt a b with
    | true =>
      have h1' : Op.bytesLess a.toList b.toList = true := h1
      clear h1
      simp only [if_true]
      go_enter Try.func18, Try.ntmps18
      go_wp2_with fail
      go_ret
      exact ⟨rfl, rfl⟩
    | false =>
      have h1' : Op.bytesLess a.toList b.toList = false := h1
      clear h1
      cases h2 : slt b a with
      | true =>
        have h2' : Op.bytesLess b.toList a.toList = true := h2
        have hne : (a.toList == b.toList) = false := by
          cases he : (a.toList == b.toList) with
          | false => rfl
          | true =>
            have e : a.toList = b.toList := by simpa using he
            have hb : Op.bytesLess b.toList b.toList = true := by rw [← e] at h2' ⊢; exact h2'
            have hi := slt_irrefl b
            unfold slt at hi
            rw [hb] at hi
            cases hi
        clear h2
        simp only [Bool.false_eq_true, if_false, if_true]
        go_enter Try.func18, Try.ntmps18
        go_wp2_with fail
        go_ret
        exact ⟨rfl, rfl⟩
      | false =>
        obtain rfl := slt_total (show slt a b = false from h1') h2
        clear h2
        simp only [Bool.false_eq_true, if_false]
        go_enter Try.func18, Try.ntmps18
        go_wp2_with fail
        go_ret
        exact ⟨rfl, rfl⟩

theorem ownS_below {w w' : World} {B : Nat} {v : Value} {ss : List ByteArray} (h : OwnS w B v ss) (hb : Below w.heap.size w w') : OwnS w' B v ss := by
  obtain ⟨h1, h2⟩ := h
  refine ⟨h1, ?_⟩
  rcases h2 with h2 | ⟨g, cap, cur, e, hg, hh, hc, hm, hs, ht⟩
  · exact Or.inl h2
  · exact Or.inr ⟨g, cap, cur, e, hg, by rw [hb.block g (Array.getElem?_eq_some_iff.1 hh).1]; exact hh, hc, hm, hs, ht⟩
theorem ownS_mono {w : World} {B B' : Nat} {v : Value} {ss : List ByteArray} (h : OwnS w B v ss) (hB : B' ≤ B) : OwnS w B' v ss := by
  obtain ⟨h1, h2⟩ := h
  refine ⟨h1, ?_⟩
  rcases h2 with h2 | ⟨g, cap, cur, e, hg, r⟩
  · exact Or.inl h2
  · exact Or.inr ⟨g, cap, cur, e, by omega, r⟩
theorem ownS_set {w : World} {B m : Nat} {v u : Value} {ss : List ByteArray} (h : OwnS w B v ss) (hm : m < B) : OwnS (w.setCell ⟨m, 0, none⟩ u) B v ss := by
  obtain ⟨h1, h2⟩ := h
  refine ⟨h1, ?_⟩
  rcases h2 with h2 | ⟨g, cap, cur, e, hg, hh, r⟩
  · exact Or.inl h2
  · exact Or.inr ⟨g, cap, cur, e, hg, by rw [Below.heap_setCell _ _ _ _ (show g ≠ m by omega)]; exact hh, r⟩

/-- what is kept while keys are gathered in the variable in block m. -/
structure TxJ (w0 : World) (m : Nat) (s : List ByteArray) (w : World) : Prop where
  lt : m < w0.heap.size
  cell : ∃ v, w.cell? ⟨m, 0, none⟩ = some v ∧ OwnS w w0.heap.size v s
  fr : w.frozen? ⟨m, 0, none⟩ = false
  chg : Chg m w0 w
theorem TxJ.below {w0 : World} {m : Nat} {s : List ByteArray} {w w' : World} (h : TxJ w0 m s w) (hb : Below w.heap.size w w') : TxJ w0 m s w' := by
  have hl : m < w.heap.size := by have := h.lt; have := h.chg.size; omega
  obtain ⟨v, h1, h2⟩ := h.cell
  exact ⟨h.lt, ⟨v, by rw [hb.cell (p := ⟨m, 0, none⟩) hl]; exact h1, ownS_below h2 hb⟩, by rw [hb.frozen (p := ⟨m, 0, none⟩) hl]; exact h.fr, h.chg.trans (.of_below hb)⟩

set_option maxHeartbeats 1000000 in
set_option maxRecDepth 100000 in
theorem tx_see (m bs stop : Nat) (w0 : World) (hst : stop < 256) (h1 : bs ≠ m) (z1 : bs < w0.heap.size) (c1 : w0.cell? ⟨bs, 0, none⟩ = some (.int .u8 (stop : Nat))) :
    SeesSi (txF (1 + stop)) 21 #[.pointer (some ⟨m, 0, none⟩), .pointer (some ⟨bs, 0, none⟩)] (fun s _ => s.length ≤ 300) (fun j => j ≠ m) w0 (TxJ w0 m) where
  eg := fun _ _ => rfl
  hs := fun s k v w hj ha => by
    obtain ⟨u, cu, hu⟩ := hj.cell
    have f0 := hj.fr
    have HJ := Lib.hid hj
    have HU := Lib.hid hu
    have cs : w.cell? ⟨bs, 0, none⟩ = some (.int .u8 (stop : Nat)) := by rw [hj.chg.cell z1 h1]; exact c1
    have HCS := Lib.hid cs
    have HZ1 := Lib.hid z1
    have H1 := Lib.hid h1
    have HLT := Lib.hid hj.lt
    have HSZ := Lib.hid hj.chg.size
    have ha : s.length ≤ 300 := ha
    obtain ⟨n, hn⟩ : ∃ n, s.length = n := ⟨_, rfl⟩
    have HN := Lib.hid hn
    rw [hn] at ha
    have hsti : (stop : Int) < 256 := by omega
    clear hj hu z1 h1 c1 hn cs
    unfold txF
    rw [HN.out]
    obtain ⟨bb, hbb⟩ : ∃ bb, decide (n + 1 < 1 + stop) = bb := ⟨_, rfl⟩
    rw [hbb]
    have HBB := Lib.hid hbb
    clear hbb
    go_enter Try.func21, Try.ntmps21
    go_wp2_with (at_builtin; refine wpList_app_str rfl _ _ rfl w0.heap.size _ s rfl (HU.out.alloc _) ⟨w.heap.size, 0, none⟩ 1 [k] rfl (strs_one (by rw [World.cell?_alloc_new]; rfl)) (by rw [HN.out]; simp; omega) (by have := HSZ.out; simp; omega) ?_)
    intro v' w' hown hgr
    have hkeep : ∀ j, j < w0.heap.size → w'.heap[j]? = w.heap[j]? := fun j hj => by
      have hjw : j < w.heap.size := by have := HSZ.out; omega
      rw [hgr.block j (by simp; omega) (fun e => by have := HU.out.lt j e.symm; omega)]
      exact Below.heap_alloc _ _ _ hjw
    have hzw : w0.heap.size ≤ w'.heap.size := by have h8 := hgr.size; have := HSZ.out; simp at h8; omega
    have cm : w'.cell? ⟨m, 0, none⟩ = some u := by rw [World.cell?_of_block (w := w) (hkeep m HLT.out)]; exact cu
    have fm : w'.frozen? ⟨m, 0, none⟩ = false := by rw [World.frozen?_of_block (w := w) (hkeep m HLT.out)]; exact f0
    have cs : w'.cell? ⟨bs, 0, none⟩ = some (.int .u8 (stop : Nat)) := by rw [World.cell?_of_block (w := w) (hkeep bs HZ1.out)]; exact HCS.out
    obtain ⟨p', c', rfl, hc', hpc', hrow'⟩ := hown.row
    have hl' : (s ++ [k]).length = n + 1 := by rw [List.length_append, HN.out]; rfl
    rw [hl'] at hown ⊢
    obtain ⟨w2, hw2⟩ : ∃ w2, w'.setCell ⟨m, 0, none⟩ (.slice p' (n + 1) c') = w2 := ⟨_, rfl⟩
    have c2 : w2.cell? ⟨m, 0, none⟩ = some (.slice p' (n + 1) c') := by rw [← hw2]; simp [go_sem, cm]
    have hs2 : Chg m w' w2 := hw2 ▸ Chg.set 0 _
    have cs2 : w2.cell? ⟨bs, 0, none⟩ = some (.int .u8 (stop : Nat)) := by rw [hs2.cell (by have := HZ1.out; omega) H1.out]; exact cs
    have HJ2 := Lib.hid (show TxJ w0 m (s ++ [k]) w2 from ⟨HLT.out, ⟨_, c2, hw2 ▸ ownS_set hown HLT.out⟩, by rw [← hw2]; simpa [go_sem] using fm,
      ⟨hs2.os.trans (hgr.os.trans HJ.out.chg.os), hs2.tape.trans (hgr.tape.trans HJ.out.chg.tape), hs2.output.trans (hgr.output.trans HJ.out.chg.output), Nat.le_trans hzw hs2.size,
        fun j hj hg => (hs2.block j (by omega) hg).trans ((hkeep j hj).trans (HJ.out.chg.block j hj hg))⟩⟩)
    clear hkeep hown hgr hc' hpc' hrow' hs2 cu f0 hl'
    have HW2 := Lib.hid hw2
    cases bb with
    | true =>
      have hb := of_decide_eq_true HBB.out
      have hbz : (n : Int) + 1 < 1 + (stop : Int) := by omega
      go_wp2_with fail
      go_ret
      exact ⟨rfl, HJ2.out⟩
    | false =>
      have hb := of_decide_eq_false HBB.out
      have hbz : ¬ (n : Int) + 1 < 1 + (stop : Int) := by omega
      go_wp2_with fail
      go_ret
      exact ⟨rfl, HJ2.out⟩
  hb := fun s w w' h hb => h.below hb
  hz := fun s w h => h.chg.size
  hk := fun s w h j hj hlt => h.chg.block j hlt hj
end Go.Proofs.Ytaghflionakhhaa
