/-
  Several texts in one: SkRead, WeArgs, WeBox, WeBoth, SkBound, SkMake, SkCmp, WeLit, SkAwake, SkLongM, SkShM, SkRkM, SkRkW, SkRkA, SdRefCompare, SkRkT, SkRk.
-/
import Derived.Test.YtjamkefndniljaaDoorSdStr
import Derived.Test.YtjamkefndniljaaDoorWeElem
import Derived.Test.YtjamkefndniljaaDoorLoArgs
import Derived.Test.YtjamkefndniljaaDoorWeRows
import Derived.Test.YtjamkefndniljaaDoorMgE
import Derived.Test.YtjamkefndniljaaDoorLaw2
import Derived.Test.YtjamkefndniljaaDoorQuietBelow
import Derived.Test.YtjamkefndniljaaDoorWeMayD
import Derived.BigQuiet
import Derived.Deep.CutRange
import Derived.Deep.Heap
import Derived.OpenShut
import Derived.Deep.Slices
import Derived.Test.YtjamkefndniljaaDoorSdBase
import Derived.Lib.Bytealg
import Derived.Laws.Cover1
namespace Go.Proofs.YtjamkefndniljaaDoor
open Go.RowKit Go.Gz

theorem v_may {r : Int} (h : V r) : mayNotB r = false := by
  have h1 := (validRune_iff r).2 h
  first
    | (unfold mayNotB; rw [h1]; rfl)
    | (simp [mayNotB, h1])

set_option maxHeartbeats 1000000 in
theorem or_any (e f : Int) (p : Option Addr) (c : Nat) (w : World) (hp : Row w .i64 p [e, f]) :
    Calls Tryd.prog 9 #[.slice p 2 c] w fun en w' => en = .returned (.int .i64 (if e = 0 then f else e)) ∧ w = w' := by
  have HP := Lib.hid hp; clear hp
  obtain ⟨rv, hrv⟩ : ∃ rv, (if e = 0 then f else e) = rv := ⟨_, rfl⟩
  rw [hrv]
  have HRV := Lib.hid hrv; clear hrv
  go_enter Tryd.func9, Tryd.ntmps9
  go_wp2_with fail
  go_loopg [8] 2 (fun g vi wr => ∃ k : Nat, vi = .int .i64 (k : Int) ∧ k ≤ 2 ∧ 2 - k ≤ g ∧ w = wr ∧ Hid (0 < k → e = 0) ∧ Hid (1 < k → f = 0))
  case atStart => exact ⟨0, rfl, by omega, by omega, rfl, Lib.hid (fun h => by omega), Lib.hid (fun h => by omega)⟩
  case round =>
    obtain ⟨k, rfl, hk, hg, hw, H1, H2⟩ := hrel
    obtain rfl := hw
    by_cases hlt : k < 2
    · have hltz : (k : Int) < 2 := by omega
      obtain ⟨b, o, rfl, _, hcell⟩ := row_cell HP.out (Below.refl _ _) (show k < [e, f].length by simpa using hlt)
      obtain ⟨x, hx⟩ : ∃ x, [e, f].getD k 0 = x := ⟨_, rfl⟩
      rw [hx] at hcell
      have HX := Lib.hid hx
      clear hx
      by_cases h0 : x = 0
      · have h0b : ((x : Int) != 0) = false := by simp [h0]
        have HN1 := Lib.hid (show 0 < k + 1 → e = 0 from fun _ => by
          by_cases hk0 : k = 0
          · have := HX.out; subst hk0; simpa [h0] using this
          · exact H1.out (by omega))
        have HN2 := Lib.hid (show 1 < k + 1 → f = 0 from fun h => by
          have hk1 : k = 1 := by omega
          have := HX.out; subst hk1; simpa [h0] using this)
        clear h0
        go_wp2_with fail
        go_roundg (2 - (k + 1))
        case measure => omega
        case rel => exact ⟨k + 1, by go_num, by omega, by omega, rfl, HN1, HN2⟩
      · have h0b : ((x : Int) != 0) = true := by simp [h0]
        have HV := Lib.hid (show rv = x by
          rw [← HRV.out]
          by_cases hk0 : k = 0
          · have := HX.out; subst hk0
            have : e = x := by simpa using this
            rw [this, if_neg h0]
          · have hk1 : k = 1 := by omega
            have h1 := H1.out (by omega)
            have := HX.out; subst hk1
            rw [if_pos h1]; simpa using this)
        clear h0
        go_wp2_with fail
        go_ret
        exact ⟨by rw [HV.out]; rfl, rfl⟩
    · obtain rfl : k = 2 := by omega
      have hltz : ¬ (2 : Int) < 2 := by omega
      have HV := Lib.hid (show rv = 0 by rw [← HRV.out, if_pos (H1.out (by omega))]; exact H2.out (by omega))
      go_wp2_with fail
      go_ret
      exact ⟨by rw [HV.out]; rfl, rfl⟩

/-- the answer of read. -/
def RetRead (s : ByteArray) (W : World) (e : Ending) (w' : World) : Prop :=
  Below W.heap.size W w' ∧ ((64 < s.size ∧ e = .returned (.tuple #[.slice none 0 0, .int .i64 3])) ∨ (s.size ≤ 64 ∧ ¬ Txt s.data.toList ∧ e = .returned (.tuple #[.slice none 0 0, .int .i64 2])) ∨
    (s.size ≤ 64 ∧ ∃ rs, (∀ r ∈ rs, V r) ∧ s.data.toList = encAll rs ∧ ∃ p c, e = .returned (.tuple #[.slice p rs.length c, .int .i64 0]) ∧ Row w' .i32 p rs))
set_option maxHeartbeats 1000000 in
theorem skread_any (s : ByteArray) (W : World) (hT : Lib.Utf8Tabs 1 2 W) (hs : s.size ≤ 9223372036854775807) :
    Calls Tryd.prog 12 #[.string s] W (RetRead s W) := by
  by_cases h64 : 64 < s.size
  · have h64z : (64 : Int) < (s.size : Int) := by omega
    clear hT
    go_enter Tryd.func12, Tryd.ntmps12
    go_wp2_with fail
    go_ret2
    exact ⟨Below.refl _ _, Or.inl ⟨h64, rfl⟩⟩
  · have h64z : (s.size : Int) ≤ 64 := by omega
    have hle : s.size ≤ 64 := by omega
    by_cases ht : Txt s.data.toList
    · obtain ⟨rs, hv, he⟩ := ht
      have C := Lib.hid (Sc.read_ok rs hv s he W hT (by omega))
      have HV := Lib.hid hv
      have HE := Lib.hid he
      clear hT h64 hv he hs
      go_enter Tryd.func12, Tryd.ntmps12
      go_wp2_with fail
      refine C.out.mono ?_
      rintro e w1 ⟨p, c, rfl, _, hb, hr⟩
      have HB := Lib.hid hb
      have HR := Lib.hid hr
      clear hb hr C
      go_wp2_with fail
      go_ret2
      exact ⟨HB.out, Or.inr (Or.inr ⟨hle, rs, HV.out, HE.out, p, c, rfl, HR.out⟩)⟩
    · have C := Lib.hid (Sc.read_bad s ht W hT (by omega))
      have HN := Lib.hid ht
      clear hT h64 ht hs
      go_enter Tryd.func12, Tryd.ntmps12
      go_wp2_with fail
      refine C.out.mono ?_
      rintro e w1 ⟨rfl, hb⟩
      have HB := Lib.hid hb
      clear hb C
      go_wp2_with fail
      go_ret2
      exact ⟨HB.out, Or.inr (Or.inl ⟨hle, HN.out, rfl⟩)⟩
end Go.Proofs.YtjamkefndniljaaDoor
namespace Go.Proofs.YtjamkefndniljaaDoor
open Go.RowKit Go.ChangeShapes Go.WideShapes Go.Gz Go.Deep

set_option maxRecDepth 100000 in
/-- a row of lores as it is read. -/
theorem lores_of {H : Type} {enc : TypeId × Value → H} {W : World} {fuel : Nat} {cs : List Value} {x : DataW H × List MemPlace} (hf : DataW.trod enc Tryd.prog W 0 (fun _ => true) true fuel 31 cs = some x) :
    ∃ p ls c, cs = [.slice p ls.length c] ∧ Lores W p ls ∧ ls.length ≤ 9223372036854775807 ∧ ∀ x ∈ ls, x.to.length ≤ 9223372036854775807 := by
  rcases open_slice Tryd.underlying31 hf with ⟨h, _⟩ | ⟨a, len, cap, m, n, D, Pl, h, _, hl, hm, hmm, _, hi⟩
  · exact ⟨none, [], 0, h, Or.inl rfl, by simp, fun x hx => by simp at hx⟩
  · simp only [if_true] at hmm
    subst hmm
    unfold maxLen at hm
    have hC : Tryd.prog.cellsOf 100 = 3 := by kernel_rfl
    have each : ∀ i, i < len → ∃ r : LR, (∀ z, z < 3 → W.cell? ((a.add (i * 3)).add z) = [Value.int .i32 r.r, .int .i64 r.c, .slice r.p r.to.length r.cap][z]?) ∧ ToAt W r ∧ r.to.length ≤ 9223372036854775807 := fun i hin => by
      obtain ⟨cs', hcs, ht⟩ := hi i (by omega)
      rw [hC] at hcs
      obtain ⟨r, rfl, h1, h2⟩ := lr_of ht
      obtain ⟨_, _, hat⟩ := World.cells?_some hcs
      exact ⟨r, hat, h1, h2⟩
    have pick : ∃ f : Nat → LR, ∀ i, i < len → (∀ z, z < 3 → W.cell? ((a.add (i * 3)).add z) = [Value.int .i32 (f i).r, .int .i64 (f i).c, .slice (f i).p (f i).to.length (f i).cap][z]?) ∧ ToAt W (f i) ∧ (f i).to.length ≤ 9223372036854775807 :=
      ⟨fun i => if h : i < len then Classical.choose (each i h) else default, fun i h => by simp only [dif_pos h]; exact Classical.choose_spec (each i h)⟩
    obtain ⟨f, hf2⟩ := pick
    have hget : ∀ j, j < len → ((List.range len).map f)[j]! = f j := fun j hj => by
      rw [getElem!_pos _ j (by simpa using hj)]; simp
    refine ⟨some a, (List.range len).map f, m, by simp [h], ?_, by simp; omega, fun x hx => ?_⟩
    · by_cases h0 : len = 0
      · exact Or.inl (by subst h0; rfl)
      · have hc0 := (hf2 0 (by omega)).1 0 (by omega)
        obtain ⟨b, off, spot⟩ := a
        have hc0' : W.cell? ⟨b, off + 0 * 3 + 0, spot⟩ = some (.int .i32 (f 0).r) := by
          have e : ((⟨b, off, spot⟩ : Addr).add (0 * 3)).add 0 = ⟨b, off, spot⟩ := by simp [Addr.add]
          rw [e] at hc0
          simpa using hc0
        have hsp : spot = none := Go.Proofs.cell_spot hc0'
        subst hsp
        refine Or.inr ⟨b, off, rfl, World.block_lt_of_cell? W _ hc0', fun j hj => ?_⟩
        have hj' : j < len := by simpa using hj
        obtain ⟨hz, h1, _⟩ := hf2 j hj'
        rw [hget j hj']
        have z0 := hz 0 (by omega)
        have z1 := hz 1 (by omega)
        have z2 := hz 2 (by omega)
        simp only [Addr.add_lit] at z0 z1 z2
        exact ⟨z0, z1, z2, h1⟩
    · obtain ⟨i, hi', rfl⟩ := List.mem_map.1 hx
      exact (hf2 i (List.mem_range.1 hi')).2.2

set_option maxRecDepth 100000 in
/-- an element as it is read. -/
theorem el_of {H : Type} {enc : TypeId × Value → H} {W : World} {fuel : Nat} {cs : List Value} {x : DataW H × List MemPlace} (h : DataW.trod enc Tryd.prog W 0 (fun _ => true) true fuel 26 cs = some x) :
    ∃ r : EL, cs = [.int .i64 r.p, .int .i64 r.s, .int .i64 r.t] := by
  obtain ⟨ys, n, _, _, hlen, hyl, hf⟩ := DataW.trod_struct Tryd.underlying26 h
  have hC : Tryd.prog.cellsOf 26 = 3 := by kernel_rfl
  rw [hC] at hlen
  have c64 : Tryd.prog.cellsOf 3 = 1 := by kernel_rfl
  match cs, hlen with
  | [v0, v1, v2], _ =>
    match ys, hyl with
    | [y0, y1, y2], _ =>
      have h0 : DataW.trod enc Tryd.prog W 0 (fun _ => true) true n 3 [v0] = some y0 := by simpa [c64] using hf 0 _ rfl
      have h1 : DataW.trod enc Tryd.prog W 0 (fun _ => true) true n 3 [v1] = some y1 := by simpa [c64] using hf 1 _ rfl
      have h2 : DataW.trod enc Tryd.prog W 0 (fun _ => true) true n 3 [v2] = some y2 := by simpa [c64] using hf 2 _ rfl
      obtain ⟨p, rfl⟩ := one_int Tryd.underlying3 h0
      obtain ⟨s, rfl⟩ := one_int Tryd.underlying3 h1
      obtain ⟨t, rfl⟩ := one_int Tryd.underlying3 h2
      exact ⟨⟨p, s, t⟩, rfl⟩

set_option maxRecDepth 100000 in
/-- a row of elements as it is read. -/
theorem els_of {H : Type} {enc : TypeId × Value → H} {W : World} {fuel : Nat} {cs : List Value} {x : DataW H × List MemPlace} (hf : DataW.trod enc Tryd.prog W 0 (fun _ => true) true fuel 27 cs = some x) :
    ∃ p xs c, cs = [.slice p xs.length c] ∧ (Els W p xs ∧ xs.length ≤ c ∧ (p = none → c = 0)) ∧ xs.length ≤ 9223372036854775807 := by
  rcases open_slice Tryd.underlying27 hf with ⟨h, _⟩ | ⟨a, len, cap, m, n, D, Pl, h, _, hl, hm, hmm, _, hi⟩
  · exact ⟨none, [], 0, h, ⟨Or.inl rfl, Nat.le_refl _, fun _ => rfl⟩, by simp⟩
  · simp only [if_true] at hmm
    subst hmm
    unfold maxLen at hm
    have hC : Tryd.prog.cellsOf 26 = 3 := by kernel_rfl
    have each : ∀ i, i < len → ∃ r : EL, ∀ z, z < 3 → W.cell? ((a.add (i * 3)).add z) = [Value.int .i64 r.p, .int .i64 r.s, .int .i64 r.t][z]? := fun i hin => by
      obtain ⟨cs', hcs, ht⟩ := hi i (by omega)
      rw [hC] at hcs
      obtain ⟨r, rfl⟩ := el_of ht
      obtain ⟨_, _, hat⟩ := World.cells?_some hcs
      exact ⟨r, hat⟩
    have pick : ∃ f : Nat → EL, ∀ i, i < len → ∀ z, z < 3 → W.cell? ((a.add (i * 3)).add z) = [Value.int .i64 (f i).p, .int .i64 (f i).s, .int .i64 (f i).t][z]? :=
      ⟨fun i => if h : i < len then Classical.choose (each i h) else default, fun i h => by simp only [dif_pos h]; exact Classical.choose_spec (each i h)⟩
    obtain ⟨f, hf2⟩ := pick
    have hget : ∀ j, j < len → ((List.range len).map f)[j]! = f j := fun j hj => by
      rw [getElem!_pos _ j (by simpa using hj)]; simp
    refine ⟨some a, (List.range len).map f, m, by simp [h], ⟨?_, by simpa using hl, fun h => by cases h⟩, by simp; omega⟩
    by_cases h0 : len = 0
    · exact Or.inl (by subst h0; rfl)
    · have hc0 := hf2 0 (by omega) 0 (by omega)
      obtain ⟨b, off, spot⟩ := a
      have hc0' : W.cell? ⟨b, off + 0 * 3 + 0, spot⟩ = some (.int .i64 (f 0).p) := by
        have e : ((⟨b, off, spot⟩ : Addr).add (0 * 3)).add 0 = ⟨b, off, spot⟩ := by simp [Addr.add]
        rw [e] at hc0
        simpa using hc0
      have hsp : spot = none := Go.Proofs.cell_spot hc0'
      subst hsp
      refine Or.inr ⟨b, off, rfl, World.block_lt_of_cell? W _ hc0', fun j hj => ?_⟩
      have hj' : j < len := by simpa using hj
      have hz := hf2 j hj'
      rw [hget j hj']
      have z0 := hz 0 (by omega)
      have z1 := hz 1 (by omega)
      have z2 := hz 2 (by omega)
      simp only [Addr.add_lit] at z0 z1 z2
      exact ⟨z0, z1, z2⟩

set_option maxRecDepth 100000 in
/-- a row of a table as it is read. -/
theorem wr_of {H : Type} {enc : TypeId × Value → H} {W : World} {fuel : Nat} {cs : List Value} {x : DataW H × List MemPlace} (h : DataW.trod enc Tryd.prog W 0 (fun _ => true) true fuel 29 cs = some x) :
    ∃ r : WR, cs = [.slice r.op r.of.length r.oc, .slice r.tp r.to.length r.tc] ∧ RowAt W r ∧ r.of.length ≤ 9223372036854775807 ∧ r.to.length ≤ 9223372036854775807 := by
  obtain ⟨ys, n, _, _, hlen, hyl, hf⟩ := DataW.trod_struct Tryd.underlying29 h
  have hC : Tryd.prog.cellsOf 29 = 2 := by kernel_rfl
  rw [hC] at hlen
  have c32 : Tryd.prog.cellsOf 21 = 1 := by kernel_rfl
  have cs1 : Tryd.prog.cellsOf 24 = 1 := by kernel_rfl
  have cs2 : Tryd.prog.cellsOf 27 = 1 := by kernel_rfl
  match cs, hlen with
  | [v0, v1], _ =>
    match ys, hyl with
    | [y0, y1], _ =>
      have h0 : DataW.trod enc Tryd.prog W 0 (fun _ => true) true n 24 [v0] = some y0 := by simpa [cs1] using hf 0 _ rfl
      have h1 : DataW.trod enc Tryd.prog W 0 (fun _ => true) true n 27 [v1] = some y1 := by simpa [cs2] using hf 1 _ rfl
      obtain ⟨p, of, oc, rfl, hr, hl, hn, hb⟩ := to_of Tryd.underlying24 Tryd.underlying21 c32 h0
      obtain ⟨q, tz, tc, hv, he, hb2⟩ := els_of h1
      injection hv with hv _
      subst hv
      exact ⟨⟨p, of, oc, q, tz, tc⟩, rfl, ⟨⟨hr, hl, hn⟩, he⟩, hb, hb2⟩

set_option maxRecDepth 100000 in
/-- the rows of a table as they are read. -/
theorem wrs_of {H : Type} {enc : TypeId × Value → H} {W : World} {fuel : Nat} {cs : List Value} {x : DataW H × List MemPlace} (hf : DataW.trod enc Tryd.prog W 0 (fun _ => true) true fuel 30 cs = some x) :
    ∃ p rs c, cs = [.slice p rs.length c] ∧ Wrs W p rs ∧ rs.length ≤ 9223372036854775807 ∧ ∀ x ∈ rs, x.of.length ≤ 9223372036854775807 ∧ x.to.length ≤ 9223372036854775807 := by
  rcases open_slice Tryd.underlying30 hf with ⟨h, _⟩ | ⟨a, len, cap, m, n, D, Pl, h, _, hl, hm, hmm, _, hi⟩
  · exact ⟨none, [], 0, h, Or.inl rfl, by simp, fun x hx => by simp at hx⟩
  · simp only [if_true] at hmm
    subst hmm
    unfold maxLen at hm
    have hC : Tryd.prog.cellsOf 29 = 2 := by kernel_rfl
    have each : ∀ i, i < len → ∃ r : WR, (∀ z, z < 2 → W.cell? ((a.add (i * 2)).add z) = [Value.slice r.op r.of.length r.oc, .slice r.tp r.to.length r.tc][z]?) ∧ RowAt W r ∧ r.of.length ≤ 9223372036854775807 ∧ r.to.length ≤ 9223372036854775807 := fun i hin => by
      obtain ⟨cs', hcs, ht⟩ := hi i (by omega)
      rw [hC] at hcs
      obtain ⟨r, rfl, h1, h2⟩ := wr_of ht
      obtain ⟨_, _, hat⟩ := World.cells?_some hcs
      exact ⟨r, hat, h1, h2⟩
    have pick : ∃ f : Nat → WR, ∀ i, i < len → (∀ z, z < 2 → W.cell? ((a.add (i * 2)).add z) = [Value.slice (f i).op (f i).of.length (f i).oc, .slice (f i).tp (f i).to.length (f i).tc][z]?) ∧ RowAt W (f i) ∧ (f i).of.length ≤ 9223372036854775807 ∧ (f i).to.length ≤ 9223372036854775807 :=
      ⟨fun i => if h : i < len then Classical.choose (each i h) else default, fun i h => by simp only [dif_pos h]; exact Classical.choose_spec (each i h)⟩
    obtain ⟨f, hf2⟩ := pick
    have hget : ∀ j, j < len → ((List.range len).map f)[j]! = f j := fun j hj => by
      rw [getElem!_pos _ j (by simpa using hj)]; simp
    refine ⟨some a, (List.range len).map f, m, by simp [h], ?_, by simp; omega, fun x hx => ?_⟩
    · by_cases h0 : len = 0
      · exact Or.inl (by subst h0; rfl)
      · have hc0 := (hf2 0 (by omega)).1 0 (by omega)
        obtain ⟨b, off, spot⟩ := a
        have hc0' : W.cell? ⟨b, off + 0 * 2 + 0, spot⟩ = some (.slice (f 0).op (f 0).of.length (f 0).oc) := by
          have e : ((⟨b, off, spot⟩ : Addr).add (0 * 2)).add 0 = ⟨b, off, spot⟩ := by simp [Addr.add]
          rw [e] at hc0
          simpa using hc0
        have hsp : spot = none := Go.Proofs.cell_spot hc0'
        subst hsp
        refine Or.inr ⟨b, off, rfl, World.block_lt_of_cell? W _ hc0', fun j hj => ?_⟩
        have hj' : j < len := by simpa using hj
        obtain ⟨hz, h1, _⟩ := hf2 j hj'
        rw [hget j hj']
        have z0 := hz 0 (by omega)
        have z1 := hz 1 (by omega)
        simp only [Addr.add_lit] at z0 z1
        exact ⟨z0, z1, h1⟩
    · obtain ⟨i, hi', rfl⟩ := List.mem_map.1 hx
      exact (hf2 i (List.mem_range.1 hi')).2.2

theorem one_bool {H : Type} {enc : TypeId × Value → H} {P : Program} {W : World} {t : TypeId} {fuel : Nat} {v : Value} {x : DataW H × List MemPlace} (ht : P.underlying t = some .bool) (h : DataW.trod enc P W 0 (fun _ => true) true fuel t [v] = some x) : ∃ b : Bool, v = .bool b := by
  cases fuel with
  | zero => simp [DataW.trod] at h
  | succ n =>
    unfold DataW.trod at h
    rw [ht] at h
    split at h <;> simp_all

/-- what a table's argument says of itself. -/
structure TabIn (W : World) (T : TB) : Prop where
  lore : Lores W T.lp T.ls
  rows : Wrs W T.rp T.rs
  bl : T.ls.length ≤ 9223372036854775807
  bx : ∀ x ∈ T.ls, x.to.length ≤ 9223372036854775807
  br : T.rs.length ≤ 9223372036854775807
  by_ : ∀ x ∈ T.rs, x.of.length ≤ 9223372036854775807 ∧ x.to.length ≤ 9223372036854775807

set_option maxRecDepth 100000 in
/-- an argument that is a table. -/
theorem arg_table {H : Type} {enc : TypeId × Value → H} {W : World} {b0 : Nat} {v : Value} {d : DataW H} {ps : List MemPlace} (hval : Value.okWide Tryd.prog W .any b0 33 v) (hd : DataW.Trod enc Tryd.prog W 0 (fun _ => true) true 33 v d ps) :
    ∃ T : TB, v = .agg #[.slice T.lp T.ls.length T.lc, .slice T.rp T.rs.length T.rc, .int .i64 T.top, .bool T.sh] ∧ TabIn W T := by
  obtain ⟨cs, rfl, hsz⟩ := okWide_struct Tryd.underlying33 hval
  obtain ⟨fuel, hf0⟩ := hd
  obtain ⟨ys, n, _, _, hlen, hyl, hf⟩ := DataW.trod_struct Tryd.underlying33 hf0
  have hC : Tryd.prog.cellsOf 33 = 4 := by kernel_rfl
  rw [hC] at hlen hsz
  have c1 : Tryd.prog.cellsOf 31 = 1 := by kernel_rfl
  have c2 : Tryd.prog.cellsOf 30 = 1 := by kernel_rfl
  have c3 : Tryd.prog.cellsOf 3 = 1 := by kernel_rfl
  have c4 : Tryd.prog.cellsOf 4 = 1 := by kernel_rfl
  obtain ⟨cl⟩ := cs
  have hcl : (Value.agg ⟨cl⟩).cells.toList = cl := rfl
  rw [hcl] at hf
  match cl, hsz with
  | [v0, v1, v2, v3], _ =>
    match ys, hyl with
    | [y0, y1, y2, y3], _ =>
      have h0 : DataW.trod enc Tryd.prog W 0 (fun _ => true) true n 31 [v0] = some y0 := by simpa [c1] using hf 0 _ rfl
      have h1 : DataW.trod enc Tryd.prog W 0 (fun _ => true) true n 30 [v1] = some y1 := by simpa [c2] using hf 1 _ rfl
      have h2 : DataW.trod enc Tryd.prog W 0 (fun _ => true) true n 3 [v2] = some y2 := by simpa [c3] using hf 2 _ rfl
      have h3 : DataW.trod enc Tryd.prog W 0 (fun _ => true) true n 4 [v3] = some y3 := by simpa [c4] using hf 3 _ rfl
      obtain ⟨lp, ls, lc, e0, a1, a2, a3⟩ := lores_of h0
      obtain ⟨rp, rs, rc, e1, a4, a5, a6⟩ := wrs_of h1
      obtain ⟨top, rfl⟩ := one_int Tryd.underlying3 h2
      obtain ⟨sh, rfl⟩ := one_bool Tryd.underlying4 h3
      injection e0 with e0 _
      injection e1 with e1 _
      subst e0
      subst e1
      exact ⟨⟨lp, ls, lc, rp, rs, rc, top, sh⟩, rfl, ⟨a1, a4, a2, a3, a5, a6⟩⟩
end Go.Proofs.YtjamkefndniljaaDoor
namespace Go.Proofs.YtjamkefndniljaaDoor
open Go.RowKit Go.Gz Go.Sort

theorem own_slice {w : World} {B : Nat} {v : Value} {xs : List Int} (h : Own w B 21 .i32 v xs) : ∃ q c, v = .slice q xs.length c ∧ (q = none → c = 0) ∧ Row w .i32 q xs := by
  have h' := h
  obtain ⟨_, ⟨rfl, h0⟩ | ⟨g, cap', cur, rfl, _⟩⟩ := h
  · have h00 : xs = [] := List.eq_nil_of_length_eq_zero h0
    exact ⟨none, 0, by rw [h00]; rfl, fun _ => rfl, Or.inl h00⟩
  · obtain ⟨p', c', hv, _, hr⟩ := Own.row h'
    injection hv with hp hn hcc
    exact ⟨some ⟨g, 0, none⟩, cap', by rw [hn], (fun h => by cases h), by rw [hp]; exact hr⟩
/-- a table's box. -/
structure BoxAt (w : World) (B : Nat) (T : TB) : Prop where
  lt : B < w.heap.size
  t0 : w.cell? ⟨B, 0, none⟩ = some (.slice T.lp T.ls.length T.lc)
  t1 : w.cell? ⟨B, 1, none⟩ = some (.slice T.rp T.rs.length T.rc)
  t2 : w.cell? ⟨B, 2, none⟩ = some (.int .i64 T.top)
  t3 : w.cell? ⟨B, 3, none⟩ = some (.bool T.sh)
theorem BoxAt.below {w w' : World} {B : Nat} {T : TB} (h : BoxAt w B T) (hb : Below w.heap.size w w') : BoxAt w' B T :=
  ⟨Nat.lt_of_lt_of_le h.lt hb.size, cell_below hb h.t0 h.lt, cell_below hb h.t1 h.lt, cell_below hb h.t2 h.lt, cell_below hb h.t3 h.lt⟩
theorem BoxAt.new (W : World) (T : TB) (t : TypeId) : BoxAt (W.alloc (.cells #[.slice T.lp T.ls.length T.lc, .slice T.rp T.rs.length T.rc, .int .i64 T.top, .bool T.sh] t)) W.heap.size T :=
  ⟨by simp, by simp, by simp, by simp, by simp⟩
theorem TabIn.at_ {W w : World} {T : TB} (h : TabIn W T) (hb : Below W.heap.size W w) (h1 : T.ls.length ≤ 100) (h2 : T.rs.length ≤ 100) : TableAt w T :=
  ⟨h.lore.below hb, h.rows.below hb, by omega, by omega, h.by_⟩

/-- rows of at most four elements: what a text of so many runes weighs has at most four times as many. -/
theorem lengthen_few {α : Type} {f : α → Int} {cls : Int → Int} {row : List Int → Option WR} (hr : ∀ k x, row k = some x → x.to.length ≤ 4) : ∀ (l : List α) (best : WR) (passed : Int), best.to.length ≤ 4 → (lengthenG f cls row best passed l).1.to.length ≤ 4
  | [], best, passed, h => by simpa [lengthenG] using h
  | r :: t, best, passed, h => by
    unfold lengthenG
    split
    · exact h
    · split
      · exact lengthen_few hr t best passed h
      · split
        · rename_i x hx
          exact lengthen_few hr t x passed (hr _ x hx)
        · exact lengthen_few hr t best _ h
theorem weighF_few {α : Type} {f : α → Int} {cls : Int → Int} {row : List Int → Option WR} (hr : ∀ k x, row k = some x → x.to.length ≤ 4) : ∀ (n : Nat) (l : List α), (weighF f cls row n l).length ≤ 4 * n
  | 0, _ => by simp [weighF]
  | _ + 1, [] => by simp [weighF]
  | n + 1, r :: t => by
    unfold weighF
    split
    · have := weighF_few (f := f) (cls := cls) hr n t
      simp [impl]; omega
    · rename_i k x hk
      have h1 := lengthen_few (f := f) (cls := cls) hr ((r :: t).drop k) x 0 (hr _ x (longTo_some f row hk).2.2.2)
      have h2 := weighF_few (f := f) (cls := cls) hr n (lengthenG f cls row x 0 ((r :: t).drop k)).2
      simp only [List.length_append]; omega
theorem elem_few {ls : List LR} {rs : List WR} {top : Int} (h : mayWB ls rs top = true) (s : List Int) : (elemL ls rs s).length ≤ 4 * (normalL ls s).length :=
  weighF_few (fun _ x hx => (mayRow_of (mayW_row h x (row_some hx).1)).2.2.1) _ _

end Go.Proofs.YtjamkefndniljaaDoor
namespace Go.Proofs.YtjamkefndniljaaDoor
open Go.RowKit Go.Gz Go.Sort

/-- the error of Elements, and its answer. -/
def errE (T : TB) (s : List Int) : Int := if mayWB T.ls T.rs T.top then (if s.any mayNotB then 2 else 0) else 4
def outE (T : TB) (s : List Int) : List EL := if mayWB T.ls T.rs T.top then (if s.any mayNotB then [] else elemL T.ls T.rs s) else []
def RetBoth (T : TB) (s : List Int) (W : World) (e : Ending) (w' : World) : Prop :=
  ∃ p c, e = .returned (.tuple #[.slice p (outE T s).length c, .int .i64 (errE T s)]) ∧ Below W.heap.size W w' ∧ Els w' p (outE T s)
theorem elements_both (T : TB) (s : List Int) (q : Option Addr) (c : Nat) (W : World) (hT : TableAt W T) (hs : Row W .i32 q s) (hz : s.length ≤ 60000) :
    Calls Tryd.prog 13 #[.agg #[.slice T.lp T.ls.length T.lc, .slice T.rp T.rs.length T.rc, .int .i64 T.top, .bool T.sh], .slice q s.length c] W (RetBoth T s W) := by
  unfold RetBoth errE outE
  cases hm : mayWB T.ls T.rs T.top with
  | false => exact (elements_table T hm _ W hT).mono fun e w' h => ⟨none, 0, h.1, h.2, Or.inl rfl⟩
  | true =>
    simp only [if_true]
    cases hv : s.any mayNotB with
    | true => exact (elements_text T hm s hv q c W hT hs hz).mono fun e w' h => ⟨none, 0, h.1, h.2, Or.inl rfl⟩
    | false =>
      refine (elements_ok T hm s hv q c W hT hs hz).mono fun e w' h => ?_
      obtain ⟨v, rfl, hb, hown⟩ := h
      obtain ⟨p, k, rfl, _, _, hels⟩ := OwnE.row hown
      exact ⟨p, k, rfl, hb, hels⟩
theorem TabIn.below {w w' : World} {T : TB} (h : TabIn w T) (hb : Below w.heap.size w w') : TabIn w' T := ⟨h.lore.below hb, h.rows.below hb, h.bl, h.bx, h.br, h.by_⟩
theorem outE_few {T : TB} {s : List Int} (h : s.length ≤ 200) : (outE T s).length ≤ 2400 := by
  unfold outE
  split
  · rename_i hm
    split
    · simp
    · have := elem_few hm s
      rw [normal_length] at this
      have := apart_le (le3_of (may_wrong (mayW_lore hm))) s
      omega
  · simp

end Go.Proofs.YtjamkefndniljaaDoor
namespace Go.Gz
open Go.RowKit
/-- an element whose weights are numbers of two bytes. -/
def ElOk (x : EL) : Prop := 0 ≤ x.p ∧ x.p ≤ 65535 ∧ 0 ≤ x.s ∧ x.s ≤ 65535 ∧ 0 ≤ x.t ∧ x.t ≤ 65535
theorem impl_ok {r : Int} (h0 : 0 ≤ r) (h1 : r ≤ 1114111) : ∀ x ∈ impl r, ElOk x := by
  intro x hx
  simp only [impl, List.mem_cons, List.not_mem_nil, or_false] at hx
  rcases hx with rfl | rfl
  · refine ⟨?_, ?_, ?_, ?_, ?_, ?_⟩ <;> dsimp only <;> omega
  · refine ⟨?_, ?_, ?_, ?_, ?_, ?_⟩ <;> dsimp only <;> omega
section
variable {α : Type} {f : α → Int} {cls : Int → Int} {row : List Int → Option WR}
theorem lengthen_ok (hr : ∀ k x, row k = some x → ∀ y ∈ x.to, ElOk y) : ∀ (l : List α) (best : WR) (passed : Int), (∀ y ∈ best.to, ElOk y) → (∀ y ∈ (lengthenG f cls row best passed l).1.to, ElOk y) ∧ (∀ z ∈ (lengthenG f cls row best passed l).2, z ∈ l)
  | [], best, passed, h => ⟨by simpa [lengthenG] using h, by simp [lengthenG]⟩
  | r :: t, best, passed, h => by
    unfold lengthenG
    split
    · exact ⟨h, fun z hz => hz⟩
    · split
      · have ih := lengthen_ok hr t best passed h
        refine ⟨ih.1, fun z hz => ?_⟩
        rcases List.mem_cons.1 hz with rfl | hz
        · simp
        · exact List.mem_cons_of_mem _ (ih.2 z hz)
      · split
        · rename_i x hx
          have ih := lengthen_ok hr t x passed (hr _ x hx)
          exact ⟨ih.1, fun z hz => List.mem_cons_of_mem _ (ih.2 z hz)⟩
        · have ih := lengthen_ok hr t best (cls (f r)) h
          refine ⟨ih.1, fun z hz => ?_⟩
          rcases List.mem_cons.1 hz with rfl | hz
          · simp
          · exact List.mem_cons_of_mem _ (ih.2 z hz)
theorem weighF_ok (hr : ∀ k x, row k = some x → ∀ y ∈ x.to, ElOk y) : ∀ (n : Nat) (l : List α), (∀ z ∈ l, 0 ≤ f z ∧ f z ≤ 1114111) → ∀ y ∈ weighF f cls row n l, ElOk y
  | 0, _, _ => by simp [weighF]
  | _ + 1, [], _ => by simp [weighF]
  | n + 1, r :: t, hl => by
    unfold weighF
    split
    · intro y hy
      rcases List.mem_append.1 hy with hy | hy
      · exact impl_ok (hl r (by simp)).1 (hl r (by simp)).2 y hy
      · exact weighF_ok hr n t (fun z hz => hl z (by simp [hz])) y hy
    · rename_i k x hk
      have h1 := lengthen_ok (f := f) (cls := cls) hr ((r :: t).drop k) x 0 (hr _ x (longTo_some f row hk).2.2.2)
      intro y hy
      rcases List.mem_append.1 hy with hy | hy
      · exact h1.1 y hy
      · exact weighF_ok hr n _ (fun z hz => hl z (List.mem_of_mem_drop (h1.2 z hz))) y hy
end
theorem addW_ok {L : List (List Int)} {ws : List Int} (hL : ∀ l ∈ L, ∀ w ∈ l, 0 < w ∧ w ≤ 65535) (hw : ∀ w ∈ ws, w ≤ 65535) : ∀ l ∈ addW L ws, ∀ w ∈ l, 0 < w ∧ w ≤ 65535 := by
  intro l hl w hwl
  unfold addW at hl
  rw [List.mem_iff_getElem] at hl
  obtain ⟨i, hi, rfl⟩ := hl
  simp only [List.length_zipWith] at hi
  rw [List.getElem_zipWith] at hwl
  have h1 := hL L[i] (List.getElem_mem (by omega))
  split at hwl
  · rename_i hp
    rcases List.mem_append.1 hwl with h | h
    · exact h1 w h
    · rw [List.mem_singleton.1 h]; exact ⟨hp, hw _ (List.getElem_mem (by omega))⟩
  · exact h1 w hwl
theorem wOf_ok {sh : Bool} {top : Int} {x : EL} {b : Bool} (h : ElOk x) : ∀ w ∈ (wOf sh top x b).1, w ≤ 65535 := by
  obtain ⟨h1, h2, h3, h4, h5, h6⟩ := h
  intro w hw
  unfold wOf shiftE at hw
  split at hw
  · split at hw
    · simp at hw; omega
    · split at hw
      · simp at hw; omega
      · simp at hw
        rcases hw with rfl | rfl | rfl | rfl
        · omega
        · omega
        · omega
        · split <;> omega
  · simp at hw; omega
theorem foldl_ok (sh : Bool) (top : Int) : ∀ (l : List EL) (st : LvSt), (∀ x ∈ l, ElOk x) → (∀ z ∈ st.1, ∀ w ∈ z, 0 < w ∧ w ≤ 65535) → ∀ z ∈ (l.foldl (levStep sh top) st).1, ∀ w ∈ z, 0 < w ∧ w ≤ 65535
  | [], _, _, h => h
  | x :: l, st, hl, h => foldl_ok sh top l (levStep sh top st x) (fun y hy => hl y (by simp [hy])) (addW_ok h (wOf_ok (hl x (by simp))))
theorem levL_ok {sh : Bool} {top : Int} {l : List EL} (h : ∀ x ∈ l, ElOk x) : ∀ z ∈ levL sh top l, ∀ w ∈ z, 0 < w ∧ w ≤ 65535 :=
  foldl_ok sh top l _ h fun z hz w hw => by simp at hz; subst hz; simp at hw
end Go.Gz
namespace Go.Proofs.YtjamkefndniljaaDoor
open Go.RowKit Go.Gz Go.Sort
theorem outE_ok (T : TB) (s : List Int) : ∀ x ∈ outE T s, ElOk x := by
  unfold outE
  split
  · rename_i hm
    split
    · simp
    · rename_i hv
      have hv' : s.any mayNotB = false := by simpa using hv
      have hml := mayW_lore hm
      have hval := valid_normal hml hv'
      unfold elemL weighL weighG
      refine weighF_ok (fun k x hx y hy => ?_) _ _ fun z hz => ?_
      · have h1 := mayW_row hm x (row_some hx).1
        have h2 : elNotB y = false := by
          unfold mayRowB at h1
          simp only [Bool.and_eq_true, Bool.not_eq_true'] at h1
          have := List.any_eq_false.1 h1.2.1.2 y hy
          simpa using this
        unfold elNotB at h2
        have h3 := of_decide_eq_false h2
        unfold ElOk
        omega
      · have := List.any_eq_false.1 hval z hz
        exact valid_range (by simpa using this)
  · simp
end Go.Proofs.YtjamkefndniljaaDoor
namespace Go.Proofs.YtjamkefndniljaaDoor
open Go.RowKit Go.Gz Go.Sort

/-- a text's runes, or why there are none. -/
def RdIs (s : ByteArray) (rs : List Int) (wr : Int) : Prop :=
  (64 < s.size ∧ rs = [] ∧ wr = 3) ∨ (s.size ≤ 64 ∧ ¬ Txt s.data.toList ∧ rs = [] ∧ wr = 2) ∨ (s.size ≤ 64 ∧ (∀ r ∈ rs, V r) ∧ s.data.toList = encAll rs ∧ wr = 0)
def keyOf (T : TB) (rs : List Int) : List UInt8 := keyB (levL T.sh T.top (outE T rs))
/-- the key of a text, and the error. -/
def MakeIs (T : TB) (s : ByteArray) (k : List UInt8) (er : Int) : Prop :=
  ∃ rs wr, RdIs s rs wr ∧ (((if errE T rs = 0 then wr else errE T rs) ≠ 0 ∧ er = (if errE T rs = 0 then wr else errE T rs) ∧ k = []) ∨
    ((if errE T rs = 0 then wr else errE T rs) = 0 ∧ ((640 < (keyOf T rs).length ∧ er = 3 ∧ k = []) ∨ ((keyOf T rs).length ≤ 640 ∧ er = 0 ∧ k = keyOf T rs))))
def RetMake (T : TB) (s : ByteArray) (W : World) (e : Ending) (w' : World) : Prop :=
  ∃ k er, e = .returned (.tuple #[.string ⟨k.toArray⟩, .int .i64 er]) ∧ Below W.heap.size W w' ∧ MakeIs T s k er
theorem rd_any (s : ByteArray) (W : World) (hT : Lib.Utf8Tabs 1 2 W) (hs : s.size ≤ 9223372036854775807) :
    Calls Tryd.prog 12 #[.string s] W fun e w' => ∃ rs wr p c, e = .returned (.tuple #[.slice p rs.length c, .int .i64 wr]) ∧ Below W.heap.size W w' ∧ Row w' .i32 p rs ∧ rs.length ≤ 64 ∧ RdIs s rs wr := by
  refine (skread_any s W hT hs).mono fun e w' h => ?_
  obtain ⟨hb, ⟨h1, rfl⟩ | ⟨h1, h2, rfl⟩ | ⟨h1, rs, h2, h3, p, c, rfl, hr⟩⟩ := h
  · exact ⟨[], 3, none, 0, rfl, hb, Or.inl rfl, by simp, Or.inl ⟨h1, rfl, rfl⟩⟩
  · exact ⟨[], 2, none, 0, rfl, hb, Or.inl rfl, by simp, Or.inr (Or.inl ⟨h1, h2, rfl, rfl⟩)⟩
  · refine ⟨rs, 0, p, c, rfl, hb, hr, ?_, Or.inr (Or.inr ⟨h1, h2, h3, rfl⟩)⟩
    have h4 := Sc.rs_le rs
    rw [← h3] at h4
    simp at h4
    omega

set_option maxHeartbeats 4000000 in
set_option maxRecDepth 100000 in
theorem make_any (T : TB) (s : ByteArray) (W : World) (hT : TabIn W T) (hl1 : T.ls.length ≤ 100) (hl2 : T.rs.length ≤ 100) (hU : Lib.Utf8Tabs 1 2 W) (hs : s.size ≤ 9223372036854775807) :
    Calls Tryd.prog 8 #[.agg #[.slice T.lp T.ls.length T.lc, .slice T.rp T.rs.length T.rc, .int .i64 T.top, .bool T.sh], .string s] W (RetMake T s W) := by
  have HT := Lib.hid hT; clear hT
  have HU := Lib.hid hU; clear hU
  have HL := Lib.hid (And.intro hl1 hl2); clear hl1 hl2
  go_enter Tryd.func8, Tryd.ntmps8
  go_wp2_with fail
  obtain ⟨w0, hw0⟩ : ∃ w0, W.alloc (.cells #[.slice T.lp T.ls.length T.lc, .slice T.rp T.rs.length T.rc, .int .i64 T.top, .bool T.sh] 33) = w0 := ⟨_, rfl⟩
  rw [hw0]
  have HB0 := Lib.hid (show Below W.heap.size W w0 from hw0 ▸ (Below.refl _ _).alloc (Nat.le_refl _) _)
  have HX0 := Lib.hid (show BoxAt w0 W.heap.size T from hw0 ▸ BoxAt.new W T _)
  clear hw0
  have CR := Lib.hid (rd_any s w0 (Sc.tabs_below HU.out HB0.out) hs)
  clear hs
  refine CR.out.mono ?_
  rintro e w1 ⟨rs, wr0, p1, c1, rfl, hb1, hr1, hrl, hrd⟩
  have HX1 := Lib.hid (HX0.out.below hb1)
  have HB1 := Lib.hid (HB0.out.trans (hb1.mono HB0.out.size))
  have HRD := Lib.hid hrd
  have CE := Lib.hid (elements_both T rs p1 c1 w1 (HT.out.at_ HB1.out HL.out.1 HL.out.2) hr1 (by omega))
  unfold RetBoth at CE
  have HRL := Lib.hid hrl
  clear hb1 hr1 hrl hrd CR
  obtain ⟨_, t0, t1, t2, t3⟩ := HX1.out
  obtain ⟨xs, hxs⟩ : ∃ xs, outE T rs = xs := ⟨_, rfl⟩
  obtain ⟨er, her⟩ : ∃ er, errE T rs = er := ⟨_, rfl⟩
  rw [hxs, her] at CE
  have hxl : xs.length ≤ 2400 := by rw [← hxs]; exact outE_few (by have := HRL.out; omega)
  have HOK := Lib.hid (show ∀ x ∈ xs, ElOk x from hxs ▸ outE_ok T rs)
  have HXS := Lib.hid hxs
  have HER := Lib.hid her
  clear hxs her
  go_wp2_with fail
  refine CE.out.mono ?_
  rintro e w2 ⟨p2, c2, rfl, hb2, he2⟩
  have HX2 := Lib.hid (HX1.out.below hb2)
  have HB2 := Lib.hid (HB1.out.trans (hb2.mono HB1.out.size))
  have HE2 := Lib.hid he2
  clear hb2 he2 CE t0 t1 t2 t3
  have hlit := Lib.hid (row_lit w2 .i64 36 [er, wr0])
  have CO := Lib.hid (or_any er wr0 _ 2 _ hlit.out)
  obtain ⟨e0, he0⟩ : ∃ e0, (if er = 0 then wr0 else er) = e0 := ⟨_, rfl⟩
  rw [he0] at CO
  have HE0 := Lib.hid he0
  clear he0
  go_wp2_with fail
  refine CO.out.mono ?_
  rintro e w3 ⟨rfl, hw3⟩
  have HB23 := Lib.hid (show Below w2.heap.size w2 w3 from hw3 ▸ (Below.refl _ _).alloc (Nat.le_refl _) _)
  have HB3 := Lib.hid (HB2.out.trans (HB23.out.mono HB2.out.size))
  have HX3 := Lib.hid (HX2.out.below HB23.out)
  have HE3 := Lib.hid (HE2.out.below HB23.out)
  clear hw3 hlit CO
  by_cases hz : e0 = 0
  · have hzb : ((e0 : Int) != 0) = false := by simp [hz]
    have HZ := Lib.hid hz
    clear hz
    have CL := Lib.hid (levels_any T xs p2 c2 w3 HE3.out (by omega))
    obtain ⟨_, t0, t1, t2, t3⟩ := HX3.out
    go_wp2_with fail
    refine CL.out.mono ?_
    rintro e w4 ⟨vs, rfl, hb4, hown4⟩
    have HB4 := Lib.hid (HB3.out.trans (hb4.mono HB3.out.size))
    have HB34 := Lib.hid hb4
    obtain ⟨L, hLL⟩ : ∃ L, levL T.sh T.top xs = L := ⟨_, rfl⟩
    have hL4 : L.length = 4 := by rw [← hLL]; exact levSt_len _ _ _
    have hLn : ∀ z ∈ L, z.length ≤ 2400 := fun z hz => by
      have := levL_few T.sh T.top xs z (hLL ▸ hz)
      omega
    have hLw : ∀ z ∈ L, ∀ w ∈ z, 0 ≤ w ∧ w ≤ 65535 := fun z hz w hw => by
      have := levL_ok (sh := T.sh) (top := T.top) HOK.out z (hLL ▸ hz) w hw
      omega
    rw [hLL] at hown4
    have HLL := Lib.hid hLL
    clear hLL hb4 CL t0 t1 t2 t3
    have HOW := Lib.hid hown4
    obtain ⟨s0, d0, hv0, _, r0⟩ := Own.row (hown4 0 (by omega))
    obtain ⟨s1, d1, hv1, _, r1⟩ := Own.row (hown4 1 (by omega))
    obtain ⟨s2, d2, hv2, _, r2⟩ := Own.row (hown4 2 (by omega))
    obtain ⟨s3, d3, hv3, _, r3⟩ := Own.row (hown4 3 (by omega))
    rw [hv0, hv1, hv2, hv3]
    have HLV := Lib.hid (show LvsAt (w4.alloc (.cells #[.slice s0 (L.getD 0 []).length d0, .slice s1 (L.getD 1 []).length d1, .slice s2 (L.getD 2 []).length d2, .slice s3 (L.getD 3 []).length d3] 51)) (w4.heap.size + 1) (some ⟨w4.heap.size, 0, none⟩) L from by
      have hb : Below w4.heap.size w4 (w4.alloc (.cells #[.slice s0 (L.getD 0 []).length d0, .slice s1 (L.getD 1 []).length d1, .slice s2 (L.getD 2 []).length d2, .slice s3 (L.getD 3 []).length d3] 51)) := (Below.refl _ _).alloc (Nat.le_refl _) _
      have hq : ∀ {q : Option Addr} {ys : List Int} {v : Value} {n d : Nat}, v = .slice q n d → Own w4 w3.heap.size 3 .i64 v ys → ∀ b' o', q = some ⟨b', o', none⟩ → b' < w4.heap.size + 1 := fun hv ho b' o' hq => by
        have := (World.ownsRow.lt ho b' (by rw [hv, hq]; rfl)).2
        omega
      intro j hj
      rw [hL4] at hj
      rcases (show j = 0 ∨ j = 1 ∨ j = 2 ∨ j = 3 by omega) with rfl | rfl | rfl | rfl
      · exact ⟨_, 0, s0, d0, rfl, Nat.lt_succ_self _, by rw [World.cell?_alloc_new]; rfl, r0.below hb, hq hv0 (hown4 0 (by omega))⟩
      · exact ⟨_, 0, s1, d1, rfl, Nat.lt_succ_self _, by rw [World.cell?_alloc_new]; rfl, r1.below hb, hq hv1 (hown4 1 (by omega))⟩
      · exact ⟨_, 0, s2, d2, rfl, Nat.lt_succ_self _, by rw [World.cell?_alloc_new]; rfl, r2.below hb, hq hv2 (hown4 2 (by omega))⟩
      · exact ⟨_, 0, s3, d3, rfl, Nat.lt_succ_self _, by rw [World.cell?_alloc_new]; rfl, r3.below hb, hq hv3 (hown4 3 (by omega))⟩)
    have CJ := joinLv_any (w4.heap.size + 1) L (some ⟨w4.heap.size, 0, none⟩) 4 2400 _ (by simp) hLn (by omega) (by omega) HLV.out hLw
    rw [hL4] at CJ
    have HCJ := Lib.hid CJ
    have HB5 := Lib.hid (HB4.out.alloc HB4.out.size (.cells #[.slice s0 (L.getD 0 []).length d0, .slice s1 (L.getD 1 []).length d1, .slice s2 (L.getD 2 []).length d2, .slice s3 (L.getD 3 []).length d3] 51))
    have hs4 := HB4.out.size
    obtain ⟨m0, hm0⟩ : ∃ n, (L.getD 0 []).length = n := ⟨_, rfl⟩
    obtain ⟨m1, hm1⟩ : ∃ n, (L.getD 1 []).length = n := ⟨_, rfl⟩
    obtain ⟨m2, hm2⟩ : ∃ n, (L.getD 2 []).length = n := ⟨_, rfl⟩
    obtain ⟨m3, hm3⟩ : ∃ n, (L.getD 3 []).length = n := ⟨_, rfl⟩
    rw [hm0, hm1, hm2, hm3] at HCJ HB5
    rw [hm0, hm1, hm2, hm3]
    have HKL := Lib.hid (show keyB L = keyOf T rs by unfold keyOf; rw [HXS.out, HLL.out])
    clear hm0 hm1 hm2 hm3 hv0 hv1 hv2 hv3 r0 r1 r2 r3 hown4 HLV CJ hLn hLw
    go_wp2_with fail
    refine HCJ.out.mono ?_
    rintro e w6 ⟨v6, rfl, hown6, hb6⟩
    have HB6 := Lib.hid (HB5.out.trans (hb6.mono (by omega)))
    obtain ⟨key, hkey⟩ : ∃ key, keyB L = key := ⟨_, rfl⟩
    rw [hkey] at hown6 HKL
    obtain ⟨p6, c6, rfl, _, hr6⟩ := Own.row hown6
    rw [numsB_length]
    have hrun := Sc.run_string w6 key p6 c6 hr6
    clear hb6 hown6 hr6 HCJ hkey
    by_cases hk : 640 < key.length
    · have hkz : (640 : Int) < (key.length : Int) := by omega
      go_wp2_with fail
      go_ret2
      exact ⟨[], 3, rfl, HB6.out, rs, wr0, HRD.out, Or.inr ⟨by rw [HER.out, HE0.out, HZ.out], Or.inl ⟨by rw [← HKL.out]; exact hk, rfl, rfl⟩⟩⟩
    · have hkz : decide ((640 : Int) < (key.length : Int)) = false := decide_eq_false (by omega)
      have hkn : decide (640 < key.length) = false := decide_eq_false hk
      have HK := Lib.hid (show key.length ≤ 640 by omega)
      clear hk
      go_wp2_with fail
      go_ret2
      exact ⟨key, 0, rfl, HB6.out, rs, wr0, HRD.out, Or.inr ⟨by rw [HER.out, HE0.out, HZ.out], Or.inr ⟨by rw [← HKL.out]; exact HK.out, rfl, HKL.out⟩⟩⟩
  · have hzb : ((e0 : Int) != 0) = true := by simp [hz]
    have HZ := Lib.hid hz
    clear hz
    go_wp2_with fail
    go_ret2
    exact ⟨[], e0, rfl, HB3.out, rs, wr0, HRD.out, Or.inl ⟨by rw [HER.out, HE0.out]; exact HZ.out, by rw [HER.out, HE0.out], rfl⟩⟩
end Go.Proofs.YtjamkefndniljaaDoor
namespace Go.Proofs.YtjamkefndniljaaDoor
open Go.RowKit Go.Gz Go.Sort

theorem rdIs_one {s : ByteArray} {rs rs' : List Int} {wr wr' : Int} (h : RdIs s rs wr) (h' : RdIs s rs' wr') : rs = rs' ∧ wr = wr' := by
  rcases h with ⟨a, rfl, rfl⟩ | ⟨a, b, rfl, rfl⟩ | ⟨a, b, c, rfl⟩ <;> rcases h' with ⟨a', rfl, rfl⟩ | ⟨a', b', rfl, rfl⟩ | ⟨a', b', c', rfl⟩
  · exact ⟨rfl, rfl⟩
  · omega
  · omega
  · omega
  · exact ⟨rfl, rfl⟩
  · exact absurd ⟨rs', b', c'⟩ b
  · omega
  · exact absurd ⟨rs, b, c⟩ b'
  · exact ⟨encAll_inj b b' (c.symm.trans c'), rfl⟩
theorem makeIs_one {T : TB} {s : ByteArray} {k k' : List UInt8} {er er' : Int} (h : MakeIs T s k er) (h' : MakeIs T s k' er') : k = k' ∧ er = er' := by
  obtain ⟨rs, wr, hr, h⟩ := h
  obtain ⟨rs', wr', hr', h'⟩ := h'
  obtain ⟨rfl, rfl⟩ := rdIs_one hr hr'
  rcases h with ⟨a, b, c⟩ | ⟨a, ⟨b, c, d⟩ | ⟨b, c, d⟩⟩ <;> rcases h' with ⟨a', b', c'⟩ | ⟨a', ⟨b', c', d'⟩ | ⟨b', c', d'⟩⟩
  · exact ⟨c.trans c'.symm, b.trans b'.symm⟩
  · exact absurd a' a
  · exact absurd a' a
  · exact absurd a a'
  · exact ⟨d.trans d'.symm, c.trans c'.symm⟩
  · omega
  · exact absurd a a'
  · omega
  · exact ⟨d.trans d'.symm, c.trans c'.symm⟩
/-- a text whose runes are known, by a table that may be. -/
theorem makeIs_ok {T : TB} {s : ByteArray} {k : List UInt8} {er : Int} (h : MakeIs T s k er) {rs : List Int} (hv : ∀ r ∈ rs, V r) (hs : s.data.toList = encAll rs) (h64 : s.size ≤ 64) (hm : mayWB T.ls T.rs T.top = true) :
    (640 < (keyOf T rs).length ∧ er = 3 ∧ k = []) ∨ ((keyOf T rs).length ≤ 640 ∧ er = 0 ∧ k = keyOf T rs) := by
  obtain ⟨rs', wr', hr', h'⟩ := h
  obtain ⟨rfl, rfl⟩ := rdIs_one hr' (Or.inr (Or.inr ⟨h64, hv, hs, rfl⟩))
  have he : errE T rs' = 0 := by
    unfold errE
    have hn : rs'.any mayNotB = false := List.any_eq_false.2 fun r hr => by rw [v_may (hv r hr)]; simp
    rw [if_pos hm, hn]; rfl
  rw [he] at h'
  rcases h' with ⟨a, _⟩ | ⟨_, b⟩
  · exact absurd (show (if (0 : Int) = 0 then (0 : Int) else 0) = 0 from rfl) a
  · exact b

/-- two texts held against one another. -/
def RetCmp (T : TB) (a b : ByteArray) (W : World) (e : Ending) (w' : World) : Prop :=
  ∃ ka ea kb eb er c, MakeIs T a ka ea ∧ MakeIs T b kb eb ∧ er = (if ea = 0 then eb else ea) ∧ (er ≠ 0 → c = 0) ∧ (er = 0 → c = Lib.compareBytes ka kb) ∧ e = .returned (.tuple #[.int .i64 c, .int .i64 er]) ∧ Below W.heap.size W w'

set_option maxHeartbeats 2000000 in
theorem skcompare_any (T : TB) (a b : ByteArray) (W : World) (hT : TabIn W T) (hl1 : T.ls.length ≤ 100) (hl2 : T.rs.length ≤ 100) (hU : Lib.Utf8Tabs 1 2 W) (ha : a.size ≤ 9223372036854775807) (hb : b.size ≤ 9223372036854775807) :
    Calls Tryd.prog 6 #[.agg #[.slice T.lp T.ls.length T.lc, .slice T.rp T.rs.length T.rc, .int .i64 T.top, .bool T.sh], .string a, .string b] W (RetCmp T a b W) := by
  have CM := Lib.hid (fun s w (hbw : Below W.heap.size W w) hs => make_any T s w (hT.below hbw) hl1 hl2 (Sc.tabs_below hU hbw) hs)
  clear hT hl1 hl2 hU
  go_enter Tryd.func6, Tryd.ntmps6
  go_wp2_with fail
  obtain ⟨w0, hw0⟩ : ∃ w0, W.alloc (.cells #[.slice T.lp T.ls.length T.lc, .slice T.rp T.rs.length T.rc, .int .i64 T.top, .bool T.sh] 33) = w0 := ⟨_, rfl⟩
  rw [hw0]
  have HB0 := Lib.hid (show Below W.heap.size W w0 from hw0 ▸ (Below.refl _ _).alloc (Nat.le_refl _) _)
  have HX0 := Lib.hid (show BoxAt w0 W.heap.size T from hw0 ▸ BoxAt.new W T _)
  clear hw0
  refine (CM.out a w0 HB0.out ha).mono ?_
  rintro e w1 ⟨ka, ea, rfl, hb1, hma⟩
  have HX1 := Lib.hid (HX0.out.below hb1)
  have HB1 := Lib.hid (HB0.out.trans (hb1.mono HB0.out.size))
  have HMA := Lib.hid hma
  clear hb1 hma
  obtain ⟨_, t0, t1, t2, t3⟩ := HX1.out
  go_wp2_with fail
  refine (CM.out b w1 HB1.out hb).mono ?_
  rintro e w2 ⟨kb, eb, rfl, hb2, hmb⟩
  have HB2 := Lib.hid (HB1.out.trans (hb2.mono HB1.out.size))
  have HMB := Lib.hid hmb
  clear hb2 hmb t0 t1 t2 t3 CM
  have hlit := Lib.hid (row_lit w2 .i64 36 [ea, eb])
  have CO := Lib.hid (or_any ea eb _ 2 _ hlit.out)
  obtain ⟨e0, he0⟩ : ∃ e0, (if ea = 0 then eb else ea) = e0 := ⟨_, rfl⟩
  rw [he0] at CO
  have HE0 := Lib.hid he0
  clear he0
  go_wp2_with fail
  refine CO.out.mono ?_
  rintro e w3 ⟨rfl, hw3⟩
  have HB23 := Lib.hid (show Below w2.heap.size w2 w3 from hw3 ▸ (Below.refl _ _).alloc (Nat.le_refl _) _)
  have HB3 := Lib.hid (HB2.out.trans (HB23.out.mono HB2.out.size))
  clear hw3 hlit CO
  by_cases hz : e0 = 0
  · have hzb : ((e0 : Int) != 0) = false := by simp [hz]
    have HZ := Lib.hid hz
    clear hz
    have CC := Lib.hid (fun w => Sc.compare_any ⟨ka.toArray⟩ ⟨kb.toArray⟩ w)
    obtain ⟨cv, hcv⟩ : ∃ cv, Lib.compareBytes ka kb = cv := ⟨_, rfl⟩
    have HCV := Lib.hid hcv
    simp only [hcv] at CC
    clear hcv
    go_wp2_with fail
    refine (CC.out _).mono ?_
    rintro e w4 ⟨rfl, hw4⟩
    obtain rfl : w4 = w3 := hw4
    go_wp2_with fail
    go_ret2
    exact ⟨ka, ea, kb, eb, 0, cv, HMA.out, HMB.out, by rw [HE0.out, HZ.out], fun h => absurd rfl h, fun _ => HCV.out.symm, rfl, HB3.out⟩
  · have hzb : ((e0 : Int) != 0) = true := by simp [hz]
    have HZ := Lib.hid hz
    clear hz
    go_wp2_with fail
    go_ret2
    exact ⟨ka, ea, kb, eb, e0, 0, HMA.out, HMB.out, HE0.out.symm, fun _ => rfl, fun h => absurd h HZ.out, rfl, HB3.out⟩
end Go.Proofs.YtjamkefndniljaaDoor
namespace Go.Proofs.YtjamkefndniljaaDoor
open Go.RowKit Go.Gz Go.Sort

def flatW (rs : List WR) : List Value := rs.flatMap fun x => [.slice x.op x.of.length x.oc, .slice x.tp x.to.length x.tc]
theorem flatW_get : ∀ (ls : List WR) (j : Nat), j < ls.length → (flatW ls)[j * 2]? = some (.slice ls[j]!.op ls[j]!.of.length ls[j]!.oc) ∧ (flatW ls)[j * 2 + 1]? = some (.slice ls[j]!.tp ls[j]!.to.length ls[j]!.tc)
  | [], _, h => by simp at h
  | x :: t, 0, _ => ⟨rfl, rfl⟩
  | x :: t, j + 1, h => by
    have ih := flatW_get t j (by simpa using h)
    have e : flatW (x :: t) = [.slice x.op x.of.length x.oc, .slice x.tp x.to.length x.tc] ++ flatW t := by simp [flatW]
    have g : (x :: t)[j + 1]! = t[j]! := by simp
    rw [e, g, show (j + 1) * 2 = 2 + j * 2 by omega]
    refine ⟨?_, ?_⟩
    · rw [List.getElem?_append_right (by simp)]; simpa using ih.1
    · rw [List.getElem?_append_right (by simp; omega)]; rw [show 2 + j * 2 + 1 - [Value.slice x.op x.of.length x.oc, .slice x.tp x.to.length x.tc].length = j * 2 + 1 by simp; omega]; exact ih.2
theorem wrs_lit (w : World) (b : Nat) (t : TypeId) (fr : Nat × Nat) (rs : List WR) (h : w.heap[b]? = some (.cells (flatW rs).toArray t fr)) (hr : ∀ x ∈ rs, RowAt w x) : Wrs w (some ⟨b, 0, none⟩) rs := by
  refine Or.inr ⟨b, 0, rfl, (Array.getElem?_eq_some_iff.1 h).1, fun j hj => ?_⟩
  obtain ⟨h1, h2⟩ := flatW_get rs j hj
  simp only [World.cell?, h, Nat.zero_add, List.getElem?_toArray]
  exact ⟨h1, h2, hr _ (getW_mem hj)⟩
theorem row_heap (w : World) (k : IntKind) (b : Nat) (t : TypeId) (fr : Nat × Nat) (xs : List Int) (h : w.heap[b]? = some (.cells (xs.map (Value.int k)).toArray t fr)) : Row w k (some ⟨b, 0, none⟩) xs := by
  refine Or.inr ⟨b, 0, rfl, (Array.getElem?_eq_some_iff.1 h).1, fun j hj => ?_⟩
  simp only [World.cell?, h, Nat.zero_add]
  simp [List.getD, hj]

theorem build_row (p q : Option Addr) (n k m l : Nat) (w : World) : (Instr.build 29 #[(0, .slice p n k), (1, .slice q m l)]).run Tryd.prog w = .ok (.agg #[.slice p n k, .slice q m l]) w := by kernel_rfl
theorem build_tab1 (q : Option Addr) (m l : Nat) (w : World) : (Instr.build 33 #[(1, .slice q m l)]).run Tryd.prog w = .ok (.agg #[.slice none 0 0, .slice q m l, .int .i64 0, .bool false]) w := by kernel_rfl

end Go.Proofs.YtjamkefndniljaaDoor
namespace Go.Proofs.YtjamkefndniljaaDoor
open Go.RowKit Go.Gz Go.Sort

def akO (w : World) : Array Obj := #[.cells #[.int .i32 97] 21, .cells #[.int .i64 258, .int .i64 3, .int .i64 4] 26, .cells #[.slice (some ⟨w.heap.size, 0, none⟩) 1 1, .slice (some ⟨w.heap.size + 1, 0, none⟩) 1 1] 29, .cells #[.slice none 0 0, .slice (some ⟨w.heap.size + 1 + 1, 0, none⟩) 1 1, .int .i64 0, .bool false] 33]
def akW (w : World) : World := grow w (akO w)
theorem akW_eq (w : World) : ((((w.alloc (.cells #[.int .i32 97] 21)).alloc (.cells #[.int .i64 258, .int .i64 3, .int .i64 4] 26)).alloc (.cells #[.slice (some ⟨w.heap.size, 0, none⟩) 1 1, .slice (some ⟨w.heap.size + 1, 0, none⟩) 1 1] 29)).alloc (.cells #[.slice none 0 0, .slice (some ⟨w.heap.size + 1 + 1, 0, none⟩) 1 1, .int .i64 0, .bool false] 33)) = akW w := by
  simp only [alloc_eq_grow, grow_grow]
  rfl
theorem akW_at (w : World) (k : Nat) : (akW w).heap[w.heap.size + k]? = (akO w)[k]? := by
  unfold akW grow
  rw [Array.getElem?_append_right (by omega), Nat.add_sub_cancel_left]
def akR (h : Nat) : WR := ⟨some ⟨h, 0, none⟩, [97], 1, some ⟨h + 1, 0, none⟩, [⟨258, 3, 4⟩], 1⟩
def akT (h : Nat) : TB := ⟨none, [], 0, some ⟨h + 1 + 1, 0, none⟩, [akR h], 1, 0, false⟩
theorem akT_may (h : Nat) : mayWB (akT h).ls (akT h).rs (akT h).top = true := by kernel_rfl
theorem akT_key (h : Nat) : keyOf (akT h) [97] = [1, 2, 0, 0, 0, 3, 0, 0, 0, 4, 0, 0] := by kernel_rfl
theorem akT_none (h : Nat) : keyOf (akT h) [] = [0, 0, 0, 0, 0, 0] := by kernel_rfl
theorem akT_at (w : World) : TabIn (akW w) (akT w.heap.size) := by
  refine ⟨Or.inl rfl, wrs_lit _ _ 29 (0, 0) _ (by rw [Nat.add_assoc, akW_at]; rfl) fun x hx => ?_, by simp [akT], by simp [akT], by simp [akT], fun x hx => ?_⟩
  · obtain rfl : x = akR w.heap.size := by simpa [akT] using hx
    exact ⟨⟨row_heap _ _ _ 21 (0, 0) _ (by have := akW_at w 0; rw [Nat.add_zero] at this; rw [this]; rfl), Nat.le_refl 1, fun h => by cases h⟩, ⟨els_lit _ _ 26 (0, 0) _ (by rw [akW_at]; rfl), Nat.le_refl 1, fun h => by cases h⟩⟩
  · obtain rfl : x = akR w.heap.size := by simpa [akT] using hx
    exact ⟨by simp [akR], by simp [akR]⟩
theorem v97 : ∀ r ∈ [(97 : Int)], V r := by
  intro r hr
  rw [List.mem_singleton.1 hr]; unfold V; omega
theorem enc97 : (⟨#[97]⟩ : ByteArray).data.toList = encAll [97] := by
  rw [encAll_cons, enc_one (by omega) (by omega)]; rfl
theorem ak_key {h : Nat} {k : List UInt8} {er : Int} (hm : MakeIs (akT h) ⟨#[97]⟩ k er) : k = [1, 2, 0, 0, 0, 3, 0, 0, 0, 4, 0, 0] ∧ er = 0 := by
  rcases makeIs_ok hm v97 enc97 (by decide) (akT_may h) with ⟨h1, _⟩ | ⟨_, h2, h3⟩
  · rw [akT_key] at h1; simp at h1
  · exact ⟨by rw [h3, akT_key], h2⟩
theorem ak_none {h : Nat} {k : List UInt8} {er : Int} (hm : MakeIs (akT h) ⟨#[]⟩ k er) : k = [0, 0, 0, 0, 0, 0] ∧ er = 0 := by
  rcases makeIs_ok hm (rs := []) (fun r hr => by simp at hr) rfl (by decide) (akT_may h) with ⟨h1, _⟩ | ⟨_, h2, h3⟩
  · rw [akT_none] at h1; simp at h1
  · exact ⟨by rw [h3, akT_none], h2⟩
theorem build_rowK (p q : Option Addr) (n k m l : Nat) (w : World) : (Instr.build 29 #[(0, .slice p n k), (1, .slice q m l)]).run Tryd.prog w = .ok (.agg #[.slice p n k, .slice q m l]) w := by kernel_rfl

set_option maxHeartbeats 4000000 in
set_option maxRecDepth 100000 in
theorem awake_yes (W : World) (hU : Lib.Utf8Tabs 1 2 W) : Calls Tryd.prog 4 #[] W fun e w' => e = .returned (.bool true) ∧ Below W.heap.size W w' := by
  have b1 := fun w : World => build_row (some ⟨W.heap.size, 0, none⟩) (some ⟨W.heap.size + 1, 0, none⟩) 1 1 1 1 w
  have b2 := fun w : World => build_tab1 (some ⟨W.heap.size + 1 + 1, 0, none⟩) 1 1 w
  have b3 := fun w : World => build_el3 258 3 4 w
  go_enter Tryd.func4, Tryd.ntmps4
  go_wp2_with fail
  rw [akW_eq]
  have HT := Lib.hid (akT_at W)
  have hbw := Lib.hid (show Below W.heap.size W (akW W) from grow_below W 0 _)
  have hsw : (akW W).heap.size = W.heap.size + 4 := by unfold akW; rw [size_grow]; rfl
  have HX0 := Lib.hid (show BoxAt (akW W) (W.heap.size + 1 + 1 + 1) (akT W.heap.size) from by
    have e : (akW W).heap[W.heap.size + 1 + 1 + 1]? = (akO W)[3]? := by
      have := akW_at W 3
      rwa [show W.heap.size + 3 = W.heap.size + 1 + 1 + 1 by omega] at this
    refine ⟨by omega, ?_, ?_, ?_, ?_⟩ <;> (unfold World.cell?; rw [e]; rfl))
  have CM := Lib.hid (fun s w (hb : Below (akW W).heap.size (akW W) w) hs => make_any (akT W.heap.size) s w (HT.out.below hb) (by simp [akT]) (by simp [akT]) (Sc.tabs_below hU (hbw.out.trans (hb.mono (by omega)))) hs)
  have CC := Lib.hid (fun a b w (hb : Below (akW W).heap.size (akW W) w) ha hb' => skcompare_any (akT W.heap.size) a b w (HT.out.below hb) (by simp [akT]) (by simp [akT]) (Sc.tabs_below hU (hbw.out.trans (hb.mono (by omega)))) ha hb')
  clear b1 b2 b3 hU
  generalize akW W = w0 at *
  obtain ⟨_, t0, t1, t2, t3⟩ := HX0.out
  refine (CM.out ⟨#[97]⟩ w0 (Below.refl _ _) (by decide)).mono ?_
  rintro e w1 ⟨k1, e1, rfl, hb1, hm1⟩
  obtain ⟨rfl, rfl⟩ := ak_key hm1
  have HX1 := Lib.hid (HX0.out.below hb1)
  have HB1 := Lib.hid hb1
  clear hb1 hm1 t0 t1 t2 t3
  obtain ⟨_, t0, t1, t2, t3⟩ := HX1.out
  go_wp2_with fail
  refine (CM.out ⟨#[]⟩ w1 HB1.out (by decide)).mono ?_
  rintro e w2 ⟨k2, e2, rfl, hb2, hm2⟩
  obtain ⟨rfl, rfl⟩ := ak_none hm2
  have HX2 := Lib.hid (HX1.out.below hb2)
  have HB2 := Lib.hid (HB1.out.trans (hb2.mono HB1.out.size))
  clear hb2 hm2 t0 t1 t2 t3
  obtain ⟨_, t0, t1, t2, t3⟩ := HX2.out
  go_wp2_with fail
  refine (CC.out ⟨#[]⟩ ⟨#[97]⟩ w2 HB2.out (by decide) (by decide)).mono ?_
  rintro e w3 ⟨ka, ea, kb, eb, er, cv, hma, hmb, her, _, hcv, rfl, hb3⟩
  obtain ⟨rfl, rfl⟩ := ak_none hma
  obtain ⟨rfl, rfl⟩ := ak_key hmb
  obtain rfl : er = 0 := by rw [her]; rfl
  obtain rfl : cv = -1 := by rw [hcv rfl]; rfl
  have HB3 := Lib.hid (HB2.out.trans (hb3.mono HB2.out.size))
  clear hb3 hma hmb her hcv t0 t1 t2 t3
  go_wp2_with fail
  go_ret
  exact ⟨rfl, hbw.out.trans (HB3.out.mono (by omega))⟩
end Go.Proofs.YtjamkefndniljaaDoor
namespace Go.Proofs.YtjamkefndniljaaDoor
open Go.RowKit Go.Gz Go.Sort

/-- the table of one letter. -/
def lgT (h q : Nat) (es : List EL) : TB := ⟨none, [], 0, some ⟨h + 1 + 1, 0, none⟩, [⟨some ⟨h, 0, none⟩, [97], 1, some ⟨q, 0, none⟩, es, es.length⟩], 1, 0, false⟩
def lgE : EL := ⟨10, 32, 2⟩
theorem lg_may1 (h q : Nat) : mayWB (lgT h q [lgE]).ls (lgT h q [lgE]).rs (lgT h q [lgE]).top = true := by kernel_rfl
theorem lg_may4 (h q : Nat) : mayWB (lgT h q [lgE, lgE, lgE, lgE]).ls (lgT h q [lgE, lgE, lgE, lgE]).rs (lgT h q [lgE, lgE, lgE, lgE]).top = true := by kernel_rfl
theorem lg_all1 (h q : Nat) : ((List.range 65).all fun n => (keyOf (lgT h q [lgE]) (List.replicate n 97)).length == 6 * n + 6) = true := by kernel_rfl
theorem lg_all4 (h q : Nat) : ((List.range 65).all fun n => (keyOf (lgT h q [lgE, lgE, lgE, lgE]) (List.replicate n 97)).length == 24 * n + 6) = true := by kernel_rfl
theorem lg_len1 (h q n : Nat) (hn : n ≤ 64) : (keyOf (lgT h q [lgE]) (List.replicate n 97)).length = 6 * n + 6 := eq_of_beq (List.all_eq_true.1 (lg_all1 h q) n (List.mem_range.2 (by omega)))
theorem lg_len4 (h q n : Nat) (hn : n ≤ 64) : (keyOf (lgT h q [lgE, lgE, lgE, lgE]) (List.replicate n 97)).length = 24 * n + 6 := eq_of_beq (List.all_eq_true.1 (lg_all4 h q) n (List.mem_range.2 (by omega)))
theorem v_rep (n : Nat) : ∀ r ∈ List.replicate n (97 : Int), V r := by
  intro r hr
  rw [List.eq_of_mem_replicate hr]; unfold V; omega
theorem enc_rep : ∀ n : Nat, encAll (List.replicate n (97 : Int)) = List.replicate n (97 : UInt8)
  | 0 => rfl
  | n + 1 => by
    rw [List.replicate_succ, encAll_cons, enc_rep n, enc_one (by omega) (by omega), List.replicate_succ]; rfl
/-- a text that is too long, by a table that may be. -/
theorem makeIs_long {T : TB} {s : ByteArray} {k : List UInt8} {er : Int} (h : MakeIs T s k er) (h64 : 64 < s.size) (hm : mayWB T.ls T.rs T.top = true) : k = [] ∧ er = 3 := by
  obtain ⟨rs, wr, hr, h'⟩ := h
  obtain ⟨rfl, rfl⟩ := rdIs_one hr (Or.inl ⟨h64, rfl, rfl⟩)
  have he : errE T [] = 0 := by
    unfold errE
    rw [if_pos hm]; rfl
  rw [he] at h'
  rcases h' with ⟨_, a, b⟩ | ⟨a, _⟩
  · exact ⟨b, a⟩
  · exact absurd a (by decide)
/-- what Make answers of n letters. -/
theorem lg_make {T : TB} {n a : Nat} (hm : mayWB T.ls T.rs T.top = true) (hl : n ≤ 64 → (keyOf T (List.replicate n 97)).length = a * n + 6) {s : ByteArray} (hs : s.data.toList = List.replicate n 97) {k : List UInt8} {er : Int} (h : MakeIs T s k er) :
    ((64 < n ∨ 640 < a * n + 6) ∧ k = [] ∧ er = 3) ∨ (¬ 64 < n ∧ ¬ 640 < a * n + 6 ∧ k.length = a * n + 6 ∧ er = 0) := by
  have hz : s.size = n := by
    show s.data.size = n
    rw [← Array.length_toList, hs, List.length_replicate]
  by_cases h64 : 64 < n
  · obtain ⟨h1, h2⟩ := makeIs_long h (by omega) hm
    exact Or.inl ⟨Or.inl h64, h1, h2⟩
  · have hl' := hl (by omega)
    rcases makeIs_ok h (v_rep n) (hs.trans (enc_rep n).symm) (by omega) hm with ⟨h1, h2, h3⟩ | ⟨h1, h2, h3⟩
    · exact Or.inl ⟨Or.inr (by omega), h3, h2⟩
    · exact Or.inr ⟨h64, by omega, by rw [h3]; exact hl', h2⟩
end Go.Proofs.YtjamkefndniljaaDoor
namespace Go.Proofs.YtjamkefndniljaaDoor
open Go.RowKit Go.Gz Go.Sort

/-! ### no lore, rows of one rune -/
theorem cls_none (r : Int) : clsL [] r = 0 := rfl
theorem ap_none (r : Int) : ap1 [] r = [r] := rfl
theorem order_none : ∀ s : List Int, orderL (clsL []) s = s
  | [] => by unfold orderL ordGo; rfl
  | r :: t => by
    have ih := order_none t
    have := order_part (key := clsL []) (x := r) (by rw [cls_none]; omega) [] t
    rw [ih] at this
    exact this.trans (by show orderL (clsL []) [] ++ r :: t = r :: t; rw [show orderL (clsL []) [] = [] from by unfold orderL ordGo; rfl]; rfl)
theorem normal_none (s : List Int) : normalL [] s = s := by
  unfold normalL
  rw [order_none]
  unfold apartL
  induction s with
  | nil => rfl
  | cons r t ih => rw [List.flatMap_cons, ih, ap_none]; rfl
/-- what one rune weighs. -/
def el1 (rs : List WR) (r : Int) : List EL := match rowL rs [r] with | some x => x.to | none => impl r
theorem row_more {rs : List WR} (h1 : ∀ x ∈ rs, x.of.length = 1) (k : List Int) (hk : 1 < k.length) : rowL rs k = none := by
  unfold rowL
  rw [List.find?_eq_none]
  intro x hx
  simp only [decide_eq_true_eq]
  intro e
  have := h1 x hx
  rw [e] at this
  omega
theorem longTo_one {rs : List WR} (h1 : ∀ x ∈ rs, x.of.length = 1) (r : Int) (t : List Int) : longTo id (rowL rs) (r :: t) 3 = (rowL rs [r]).map fun x => (1, x) := by
  have h : ∀ k, 1 ≤ k → longTo id (rowL rs) (r :: t) k = (rowL rs [r]).map fun x => (1, x) := by
    intro k hk
    induction k with
    | zero => omega
    | succ k ih =>
      unfold longTo
      by_cases hz : k = 0
      · subst hz
        rw [if_pos (by simp)]
        simp only [Nat.zero_add, List.take_succ_cons, List.take_zero, List.map_cons, List.map_nil, id_eq]
        cases rowL rs [r] with
        | some x => rfl
        | none => rfl
      · split
        · rename_i hl
          rw [row_more h1 _ (by simp only [List.length_map, List.length_take]; omega)]
          exact ih (by omega)
        · exact ih (by omega)
  exact h 3 (by omega)
theorem weigh_one {rs : List WR} (h1 : ∀ x ∈ rs, x.of.length = 1) : ∀ (n : Nat) (s : List Int), s.length ≤ n → weighF id (clsL []) (rowL rs) n s = s.flatMap (el1 rs)
  | 0, s, h => by
    have : s = [] := List.eq_nil_of_length_eq_zero (by omega)
    subst this; rfl
  | n + 1, [], _ => rfl
  | n + 1, r :: t, h => by
    have ih := weigh_one h1 n t (by simpa using h)
    unfold weighF
    rw [longTo_one h1, List.flatMap_cons]
    unfold el1
    cases hx : rowL rs [r] with
    | none => simp only [Option.map_none]; rw [ih]; rfl
    | some x =>
      simp only [Option.map_some, List.drop_succ_cons, List.drop_zero]
      have : lengthenG id (clsL []) (rowL rs) x 0 t = (x, t) := by
        cases t with
        | nil => rfl
        | cons a b => unfold lengthenG; rw [if_pos (cls_none _)]
      rw [this, ih]; rfl
theorem elem_one {rs : List WR} (h1 : ∀ x ∈ rs, x.of.length = 1) (s : List Int) : elemL [] rs s = s.flatMap (el1 rs) := by
  unfold elemL weighL weighG
  rw [normal_none]
  exact weigh_one h1 _ s (Nat.le_refl _)

/-! ### a blank and two letters -/
def shR (h : Nat) : List WR := [⟨some ⟨h, 0, none⟩, [32], 1, some ⟨h + 1, 0, none⟩, [⟨5, 32, 2⟩], 1⟩, ⟨some ⟨h + 1 + 1, 0, none⟩, [97], 1, some ⟨h + 1 + 1 + 1, 0, none⟩, [⟨10, 32, 2⟩], 1⟩, ⟨some ⟨h + 1 + 1 + 1 + 1, 0, none⟩, [98], 1, some ⟨h + 1 + 1 + 1 + 1 + 1, 0, none⟩, [⟨11, 32, 2⟩], 1⟩]
def shT (h : Nat) (sh : Bool) : TB := ⟨none, [], 0, some ⟨h + 1 + 1 + 1 + 1 + 1 + 1, 0, none⟩, shR h, 3, 9, sh⟩
theorem sh_may (h : Nat) (sh : Bool) : mayWB (shT h sh).ls (shT h sh).rs (shT h sh).top = true := by kernel_rfl
def eB (r : Int) : EL := if r = 32 then ⟨5, 32, 2⟩ else if r = 97 then ⟨10, 32, 2⟩ else ⟨11, 32, 2⟩
def ShT (s : List Int) : Prop := ∀ r ∈ s, r = 32 ∨ r = 97 ∨ r = 98
theorem sh_one (h : Nat) (r : Int) (hr : r = 32 ∨ r = 97 ∨ r = 98) : el1 (shR h) r = [eB r] := by
  rcases hr with rfl | rfl | rfl
  · rfl
  · rfl
  · rfl
theorem sh_elem (h : Nat) (sh : Bool) (s : List Int) (hs : ShT s) : elemL (shT h sh).ls (shT h sh).rs s = s.map eB := by
  show elemL [] (shR h) s = _
  rw [elem_one fun x hx => by
    simp only [shR, List.mem_cons, List.not_mem_nil, or_false] at hx
    rcases hx with rfl | rfl | rfl <;> rfl]
  induction s with
  | nil => rfl
  | cons r t ih => rw [List.flatMap_cons, ih fun x hx => hs x (List.mem_cons_of_mem _ hx), sh_one h r (hs r (List.mem_cons_self ..))]; rfl
theorem sh_valid {s : List Int} (hs : ShT s) : s.any mayNotB = false := by
  rw [List.any_eq_false]
  intro r hr
  rcases hs r hr with rfl | rfl | rfl <;> decide
theorem sh_out (h : Nat) (sh : Bool) (s : List Int) (hs : ShT s) : outE (shT h sh) s = s.map eB ∧ errE (shT h sh) s = 0 := by
  unfold outE errE
  rw [sh_may, sh_valid hs, sh_elem h sh s hs]
  exact ⟨rfl, rfl⟩
/-- the levels where blanks count. -/
theorem lev_plain (top : Int) : ∀ (s : List Int) (A B C D : List Int) (b : Bool), ShT s → (s.map eB).foldl (levStep false top) ([A, B, C, D], b) = ([A ++ s.map fun r => (eB r).p, B ++ s.map fun _ => 32, C ++ s.map fun _ => 2, D], b)
  | [], A, B, C, D, b, _ => by simp
  | r :: t, A, B, C, D, b, hs => by
    have ih := fun A B C D b => lev_plain top t A B C D b fun x hx => hs x (List.mem_cons_of_mem _ hx)
    have e : levStep false top ([A, B, C, D], b) (eB r) = ([A ++ [(eB r).p], B ++ [32], C ++ [2], D], b) := by
      rcases hs r (List.mem_cons_self ..) with rfl | rfl | rfl <;> simp [levStep, wOf, addW, eB]
    rw [List.map_cons, List.foldl_cons, e, ih]
    simp
/-- .. and where they don't: letters alone. -/
theorem lev_shift : ∀ (s : List Int) (A B C D : List Int) (b : Bool), (∀ r ∈ s, r = 97 ∨ r = 98) → ∃ b', (s.map eB).foldl (levStep true 9) ([A, B, C, D], b) = ([A ++ s.map fun r => (eB r).p, B ++ s.map fun _ => 32, C ++ s.map fun _ => 2, D ++ s.map fun _ => 65535], b')
  | [], A, B, C, D, b, _ => ⟨b, by simp⟩
  | r :: t, A, B, C, D, b, hs => by
    have e : levStep true 9 ([A, B, C, D], b) (eB r) = ([A ++ [(eB r).p], B ++ [32], C ++ [2], D ++ [65535]], false) := by
      rcases hs r (List.mem_cons_self ..) with rfl | rfl <;> simp [levStep, wOf, shiftE, firmB, addW, eB]
    obtain ⟨b', ih⟩ := lev_shift t (A ++ [(eB r).p]) (B ++ [32]) (C ++ [2]) (D ++ [65535]) false fun x hx => hs x (List.mem_cons_of_mem _ hx)
    exact ⟨b', by rw [List.map_cons, List.foldl_cons, e, ih]; simp⟩
theorem lev_blank (A B C D : List Int) (b : Bool) : levStep true 9 ([A, B, C, D], b) (eB 32) = ([A, B, C, D ++ [5]], true) := by
  simp [levStep, wOf, shiftE, addW, eB]
/-- the keys of a text of letters, and of the same with a blank. -/
theorem sh_keys (h : Nat) (l r : List Int) (hl : ∀ x ∈ l, x = 97 ∨ x = 98) (hr : ∀ x ∈ r, x = 97 ∨ x = 98) :
    ∃ P b d e : List UInt8, keyOf (shT h false) (l ++ r) = P ∧ keyOf (shT h false) (l ++ 32 :: r) = b ∧ keyOf (shT h true) (l ++ r) = P ++ d ∧ keyOf (shT h true) (l ++ 32 :: r) = P ++ e ∧
      P.length = 6 * (l.length + r.length) + 6 ∧ b.length = 6 * (l.length + r.length) + 12 ∧ d.length = 2 * (l.length + r.length) ∧ e.length = 2 * (l.length + r.length) + 2 := by
  have s1 : ShT (l ++ r) := fun x hx => by
    rcases List.mem_append.1 hx with hx | hx
    · exact Or.inr (hl x hx)
    · exact Or.inr (hr x hx)
  have s2 : ShT (l ++ 32 :: r) := fun x hx => by
    rcases List.mem_append.1 hx with hx | hx
    · exact Or.inr (hl x hx)
    · rcases List.mem_cons.1 hx with hx | hx
      · exact Or.inl hx
      · exact Or.inr (hr x hx)
  have k1 : keyOf (shT h false) (l ++ r) = keyB [(l ++ r).map fun x => (eB x).p, (l ++ r).map fun _ => 32, (l ++ r).map fun _ => 2, []] := by
    unfold keyOf
    rw [(sh_out h false _ s1).1]
    show keyB (levSt false 9 _).1 = _
    unfold levSt
    rw [lev_plain 9 _ [] [] [] [] false s1]; rfl
  have k2 : keyOf (shT h false) (l ++ 32 :: r) = keyB [(l ++ 32 :: r).map fun x => (eB x).p, (l ++ 32 :: r).map fun _ => 32, (l ++ 32 :: r).map fun _ => 2, []] := by
    unfold keyOf
    rw [(sh_out h false _ s2).1]
    show keyB (levSt false 9 _).1 = _
    unfold levSt
    rw [lev_plain 9 _ [] [] [] [] false s2]; rfl
  have k3 : keyOf (shT h true) (l ++ r) = keyB [(l ++ r).map fun x => (eB x).p, (l ++ r).map fun _ => 32, (l ++ r).map fun _ => 2, (l ++ r).map fun _ => 65535] := by
    unfold keyOf
    rw [(sh_out h true _ s1).1]
    show keyB (levSt true 9 _).1 = _
    unfold levSt
    obtain ⟨b', e⟩ := lev_shift (l ++ r) [] [] [] [] false fun x hx => (List.mem_append.1 hx).elim (hl x) (hr x)
    rw [e]; rfl
  have k4 : keyOf (shT h true) (l ++ 32 :: r) = keyB [(l ++ r).map fun x => (eB x).p, (l ++ r).map fun _ => 32, (l ++ r).map fun _ => 2, l.map (fun _ => 65535) ++ 5 :: r.map fun _ => 65535] := by
    unfold keyOf
    rw [(sh_out h true _ s2).1]
    show keyB (levSt true 9 _).1 = _
    unfold levSt
    rw [List.map_append, List.map_cons, List.foldl_append, List.foldl_cons]
    obtain ⟨b', e⟩ := lev_shift l [] [] [] [] false hl
    rw [e, lev_blank]
    obtain ⟨b'', e2⟩ := lev_shift r ([] ++ l.map fun r => (eB r).p) ([] ++ l.map fun _ => 32) ([] ++ l.map fun _ => 2) ([] ++ (l.map fun _ => 65535) ++ [5]) true hr
    rw [e2]
    simp
  refine ⟨keyOf (shT h false) (l ++ r), keyOf (shT h false) (l ++ 32 :: r), lvB ((l ++ r).map fun _ => 65535), lvB (l.map (fun _ => 65535) ++ 5 :: r.map fun _ => 65535), rfl, rfl, ?_, ?_, ?_, ?_, ?_, ?_⟩
  · rw [k3, k1, keyB_four, keyB_four]; simp [lvB]
  · rw [k4, k1, keyB_four, keyB_four]; simp [lvB]
  · rw [k1, keyB_length4]; simp; omega
  · rw [k2, keyB_length4]; simp; omega
  · rw [lvB_length]; simp
  · rw [lvB_length]; simp; omega
end Go.Proofs.YtjamkefndniljaaDoor
namespace Go.Proofs.YtjamkefndniljaaDoor
open Go.RowKit Go.Gz Go.Sort

/-- a letter: is it upper, the second, has it a mark. -/
structure RkL where
  u : Bool
  s : Bool
  m : Bool
def rkC (x : RkL) : Int := (if x.u then 65 else 97) + (if x.s then 1 else 0)
def rk0 (l : List RkL) : List Int := l.flatMap fun x => rkC x :: if x.m then [769] else []
def rk1 (l : List RkL) : List Int := l.map fun x => if x.s then 11 else 10
def rk2 (l : List RkL) : List Int := l.flatMap fun x => 32 :: if x.m then [41] else []
def rk3 (l : List RkL) : List Int := l.flatMap fun x => (if x.u then 8 else 2) :: if x.m then [2] else []
def rkR (h : Nat) : List WR := [⟨some ⟨h, 0, none⟩, [65], 1, some ⟨h + 1, 0, none⟩, [⟨10, 32, 8⟩], 1⟩, ⟨some ⟨h + 1 + 1, 0, none⟩, [66], 1, some ⟨h + 1 + 1 + 1, 0, none⟩, [⟨11, 32, 8⟩], 1⟩, ⟨some ⟨h + 1 + 1 + 1 + 1, 0, none⟩, [97], 1, some ⟨h + 1 + 1 + 1 + 1 + 1, 0, none⟩, [⟨10, 32, 2⟩], 1⟩,
  ⟨some ⟨h + 1 + 1 + 1 + 1 + 1 + 1, 0, none⟩, [98], 1, some ⟨h + 1 + 1 + 1 + 1 + 1 + 1 + 1, 0, none⟩, [⟨11, 32, 2⟩], 1⟩, ⟨some ⟨h + 1 + 1 + 1 + 1 + 1 + 1 + 1 + 1, 0, none⟩, [769], 1, some ⟨h + 1 + 1 + 1 + 1 + 1 + 1 + 1 + 1 + 1, 0, none⟩, [⟨0, 41, 2⟩], 1⟩]
def rkT (h : Nat) : TB := ⟨none, [], 0, some ⟨h + 1 + 1 + 1 + 1 + 1 + 1 + 1 + 1 + 1 + 1, 0, none⟩, rkR h, 5, 0, false⟩
theorem rk_may (h : Nat) : mayWB (rkT h).ls (rkT h).rs (rkT h).top = true := by kernel_rfl
def rkE (x : RkL) : List EL := ⟨if x.s then 11 else 10, 32, if x.u then 8 else 2⟩ :: if x.m then [⟨0, 41, 2⟩] else []
theorem rk_elem (h : Nat) (l : List RkL) : elemL (rkT h).ls (rkT h).rs (rk0 l) = l.flatMap rkE := by
  show elemL [] (rkR h) _ = _
  rw [elem_one fun x hx => by
    simp only [rkR, List.mem_cons, List.not_mem_nil, or_false] at hx
    rcases hx with rfl | rfl | rfl | rfl | rfl <;> rfl]
  unfold rk0
  rw [List.flatMap_assoc]
  congr 1
  funext x
  obtain ⟨u, s, m⟩ := x
  cases u <;> cases s <;> cases m <;> rfl
theorem rk_valid (l : List RkL) : (rk0 l).any mayNotB = false := by
  rw [List.any_eq_false]
  intro r hr
  obtain ⟨⟨u, s, m⟩, _, hx⟩ := List.mem_flatMap.1 hr
  cases u <;> cases s <;> cases m <;> (simp [rkC] at hx; try rcases hx with rfl | rfl) <;> (try subst hx) <;> decide
theorem rk_fold : ∀ (l : List RkL) (A B C D : List Int) (b : Bool), (l.flatMap rkE).foldl (levStep false 0) ([A, B, C, D], b) = ([A ++ rk1 l, B ++ rk2 l, C ++ rk3 l, D], b)
  | [], A, B, C, D, b => by simp [rk1, rk2, rk3]
  | x :: t, A, B, C, D, b => by
    have ih := fun A B C D b => rk_fold t A B C D b
    obtain ⟨u, s, m⟩ := x
    rw [List.flatMap_cons, List.foldl_append]
    have e : (rkE ⟨u, s, m⟩).foldl (levStep false 0) ([A, B, C, D], b) = ([A ++ [if s then 11 else 10], B ++ (32 :: if m then [41] else []), C ++ ((if u then 8 else 2) :: if m then [2] else []), D], b) := by
      cases u <;> cases s <;> cases m <;> simp [rkE, levStep, wOf, addW]
    rw [e, ih]
    simp [rk1, rk2, rk3]
theorem rk_key (h : Nat) (l : List RkL) : keyOf (rkT h) (rk0 l) = keyB [rk1 l, rk2 l, rk3 l, []] := by
  unfold keyOf outE
  rw [rk_may, rk_valid, rk_elem]
  show keyB (levSt false 0 (l.flatMap rkE)).1 = _
  unfold levSt
  rw [rk_fold]; rfl
theorem rk1_ok (l : List RkL) : ∀ w ∈ rk1 l, w = 10 ∨ w = 11 := fun w hw => by
  obtain ⟨⟨u, s, m⟩, _, rfl⟩ := List.mem_map.1 hw
  cases s <;> simp
theorem rk2_ok (l : List RkL) : ∀ w ∈ rk2 l, w = 32 ∨ w = 41 := fun w hw => by
  obtain ⟨⟨u, s, m⟩, _, hx⟩ := List.mem_flatMap.1 hw
  cases m <;> simp at hx <;> omega
theorem rk3_ok (l : List RkL) : ∀ w ∈ rk3 l, w = 2 ∨ w = 8 := fun w hw => by
  obtain ⟨⟨u, s, m⟩, _, hx⟩ := List.mem_flatMap.1 hw
  cases m <;> cases u <;> simp at hx <;> omega
theorem cmpL_zero : ∀ (l m : List Int), cmpL l m = 0 ↔ l = m
  | [], [] => by simp [cmpL]
  | [], _ :: _ => by simp [cmpL]
  | _ :: _, [] => by simp [cmpL]
  | a :: l, b :: m => by
    have ih := cmpL_zero l m
    unfold cmpL
    by_cases h1 : a < b
    · rw [if_pos h1]; simp; omega
    · rw [if_neg h1]
      by_cases h2 : b < a
      · rw [if_pos h2]; simp; omega
      · obtain rfl : a = b := by omega
        rw [if_neg h2, ih]; simp
/-- the keys go by the first level that differs. -/
theorem rk_cmp (h : Nat) (l m : List RkL) : Lib.compareBytes (keyOf (rkT h) (rk0 l)) (keyOf (rkT h) (rk0 m)) = if cmpL (rk1 l) (rk1 m) = 0 then (if cmpL (rk2 l) (rk2 m) = 0 then cmpL (rk3 l) (rk3 m) else cmpL (rk2 l) (rk2 m)) else cmpL (rk1 l) (rk1 m) := by
  rw [rk_key, rk_key, keyB_four, keyB_four]
  have o1 : ∀ l, ∀ w ∈ rk1 l, 1 ≤ w ∧ w ≤ 65535 := fun l w hw => by rcases rk1_ok l w hw with rfl | rfl <;> omega
  have o2 : ∀ l, ∀ w ∈ rk2 l, 1 ≤ w ∧ w ≤ 65535 := fun l w hw => by rcases rk2_ok l w hw with rfl | rfl <;> omega
  have o3 : ∀ l, ∀ w ∈ rk3 l, 1 ≤ w ∧ w ≤ 65535 := fun l w hw => by rcases rk3_ok l w hw with rfl | rfl <;> omega
  rw [cb_level _ _ _ _ (o1 l) (o1 m), cb_level _ _ _ _ (o2 l) (o2 m), cb_level _ _ _ _ (o3 l) (o3 m)]
  simp only [cmpL_zero]
  by_cases e1 : rk1 l = rk1 m
  · rw [if_pos e1, if_pos e1]
    by_cases e2 : rk2 l = rk2 m
    · rw [if_pos e2, if_pos e2]
      by_cases e3 : rk3 l = rk3 m
      · rw [if_pos e3, (cmpL_zero _ _).2 e3]; rfl
      · rw [if_neg e3]
    · rw [if_neg e2, if_neg e2]
  · rw [if_neg e1, if_neg e1]
/-- numbers of two kinds as bytes of two kinds. -/
theorem cb_kinds {x y : Int} {c d : UInt8} (hxy : x < y) (hcd : c.toNat < d.toNat) : ∀ (l m : List Int), (∀ w ∈ l, w = x ∨ w = y) → (∀ w ∈ m, w = x ∨ w = y) →
    Lib.compareBytes (l.map fun w => if w = x then c else d) (m.map fun w => if w = x then c else d) = cmpL l m
  | [], [], _, _ => rfl
  | [], _ :: _, _, _ => rfl
  | _ :: _, [], _, _ => rfl
  | a :: l, b :: m, hl, hm => by
    have ih := cb_kinds hxy hcd l m (fun w hw => hl w (List.mem_cons_of_mem _ hw)) (fun w hw => hm w (List.mem_cons_of_mem _ hw))
    have hyx : ¬ y = x := by omega
    rw [List.map_cons, List.map_cons, cb_cons, ih, cmpL]
    rcases hl a (List.mem_cons_self ..) with rfl | rfl <;> rcases hm b (List.mem_cons_self ..) with rfl | rfl
    · simp
    · simp [hyx, hcd, hxy]
    · have n1 : ¬ d.toNat < c.toNat := by omega
      have n2 : ¬ a < b := by omega
      rw [if_neg hyx, if_pos rfl, if_neg n1, if_pos hcd, if_neg n2, if_pos hxy]
    · simp [hyx]
end Go.Proofs.YtjamkefndniljaaDoor
namespace Go.Proofs.YtjamkefndniljaaDoor
open Go.RowKit Go.Gz Go.Deep

/-- three bytes. -/
structure T3 where
  a : Int
  b : Int
  c : Int
  deriving Inhabited
def T3.ok (t : T3) : Prop := (0 ≤ t.a ∧ t.a ≤ 255) ∧ (0 ≤ t.b ∧ t.b ≤ 255) ∧ 0 ≤ t.c ∧ t.c ≤ 255
/-- slice pointer p reads in w as the threes ls. -/
def Tri (w : World) (p : Option Addr) (ls : List T3) : Prop :=
  ls = [] ∨ ∃ b off, p = some ⟨b, off, none⟩ ∧ b < w.heap.size ∧ ∀ j, j < ls.length → w.cell? ⟨b, off + j * 3, none⟩ = some (.int .u8 (ls.getD j default).a) ∧ w.cell? ⟨b, off + j * 3 + 1, none⟩ = some (.int .u8 (ls.getD j default).b) ∧ w.cell? ⟨b, off + j * 3 + 2, none⟩ = some (.int .u8 (ls.getD j default).c)
theorem Tri.below {w w' : World} {p : Option Addr} {ls : List T3} (h : Tri w p ls) (hb : Below w.heap.size w w') : Tri w' p ls := by
  rcases h with h | ⟨b, off, hp, hlt, hc⟩
  · exact Or.inl h
  · exact Or.inr ⟨b, off, hp, Nat.lt_of_lt_of_le hlt hb.size, fun j hj => by
      rw [hb.cell (p := ⟨b, off + j * 3, none⟩) hlt, hb.cell (p := ⟨b, off + j * 3 + 1, none⟩) hlt, hb.cell (p := ⟨b, off + j * 3 + 2, none⟩) hlt]; exact hc j hj⟩
theorem tri_cell {W wr : World} {p : Option Addr} {ls : List T3} (h : Tri W p ls) (hb : Below W.heap.size W wr) {j : Nat} (hj : j < ls.length) : ∃ b o, p = some ⟨b, o, none⟩ ∧ b < W.heap.size ∧
    wr.cell? ⟨b, o + j * 3, none⟩ = some (.int .u8 (ls.getD j default).a) ∧ wr.cell? ⟨b, o + j * 3 + 1, none⟩ = some (.int .u8 (ls.getD j default).b) ∧ wr.cell? ⟨b, o + j * 3 + 2, none⟩ = some (.int .u8 (ls.getD j default).c) := by
  rcases h with h | ⟨b, o, hp, h1, h2⟩
  · rw [h] at hj; simp at hj
  · refine ⟨b, o, hp, h1, ?_⟩
    rw [hb.cell (p := ⟨b, o + j * 3, none⟩) h1, hb.cell (p := ⟨b, o + j * 3 + 1, none⟩) h1, hb.cell (p := ⟨b, o + j * 3 + 2, none⟩) h1]; exact h2 j hj

def T3.u (t : T3) : Bool := t.a % 2 == 1
def T3.s (t : T3) : Bool := t.b % 2 == 1
def T3.m (t : T3) : Bool := t.c % 3 == 1
def wdB (u s : Bool) : UInt8 := (if u then 65 else 97) + (if s then 1 else 0)
def wd0 (t : T3) : List UInt8 := wdB t.u t.s :: if t.m then [204, 129] else []
def wd1 (t : T3) : List UInt8 := [if t.s then 50 else 49]
def wd2 (t : T3) : List UInt8 := 49 :: if t.m then [50] else []
def wd3 (t : T3) : List UInt8 := (if t.u then 50 else 49) :: if t.m then [49] else []
/-- the four texts of a word. -/
structure WdIs (ls : List T3) (s0 s1 s2 s3 : ByteArray) : Prop where
  h0 : s0.data.toList = ls.flatMap wd0
  h1 : s1.data.toList = ls.flatMap wd1
  h2 : s2.data.toList = ls.flatMap wd2
  h3 : s3.data.toList = ls.flatMap wd3
theorem wd_len (f : T3 → List UInt8) (k : Nat) (hf : ∀ t, (f t).length ≤ k) : ∀ ls : List T3, (ls.flatMap f).length ≤ k * ls.length
  | [] => by simp
  | t :: ls => by
    have := wd_len f k hf ls
    have := hf t
    rw [List.flatMap_cons, List.length_append, List.length_cons, Nat.mul_add]; omega
theorem WdIs.len {ls : List T3} {s0 s1 s2 s3 : ByteArray} (h : WdIs ls s0 s1 s2 s3) : s0.size ≤ 3 * ls.length ∧ s1.size ≤ 1 * ls.length ∧ s2.size ≤ 2 * ls.length ∧ s3.size ≤ 2 * ls.length := by
  have e : ∀ s : ByteArray, s.size = s.data.toList.length := fun s => by show s.data.size = _; rw [Array.length_toList]
  rw [e s0, e s1, e s2, e s3, h.h0, h.h1, h.h2, h.h3]
  refine ⟨wd_len _ _ (fun t => ?_) ls, wd_len _ _ (fun t => ?_) ls, wd_len _ _ (fun t => ?_) ls, wd_len _ _ (fun t => ?_) ls⟩
  · unfold wd0; cases t.m <;> simp
  · simp [wd1]
  · unfold wd2; cases t.m <;> simp
  · unfold wd3; cases t.m <;> simp
theorem wd_step {ls : List T3} {j : Nat} (hj : j < ls.length) {s0 s1 s2 s3 t0 t1 t2 t3 : ByteArray} (h : WdIs (ls.take j) s0 s1 s2 s3)
    (e0 : t0.data.toList = s0.data.toList ++ wd0 (ls.getD j default)) (e1 : t1.data.toList = s1.data.toList ++ wd1 (ls.getD j default)) (e2 : t2.data.toList = s2.data.toList ++ wd2 (ls.getD j default)) (e3 : t3.data.toList = s3.data.toList ++ wd3 (ls.getD j default)) : WdIs (ls.take (j + 1)) t0 t1 t2 t3 := by
  have e : ∀ f : T3 → List UInt8, (ls.take (j + 1)).flatMap f = (ls.take j).flatMap f ++ f (ls.getD j default) := fun f => by
    rw [List.take_add_one, List.getElem?_eq_getElem hj, List.flatMap_append]
    simp [List.getD, List.getElem?_eq_getElem hj]
  exact ⟨by rw [e0, e, h.h0], by rw [e1, e, h.h1], by rw [e2, e, h.h2], by rw [e3, e, h.h3]⟩

/-- block g holds four texts. -/
structure Str4 (w : World) (g : Nat) (s0 s1 s2 s3 : ByteArray) : Prop where
  lt : g < w.heap.size
  c0 : w.cell? ⟨g, 0, none⟩ = some (.string s0)
  c1 : w.cell? ⟨g, 1, none⟩ = some (.string s1)
  c2 : w.cell? ⟨g, 2, none⟩ = some (.string s2)
  c3 : w.cell? ⟨g, 3, none⟩ = some (.string s3)
  fz : ∀ i, i < 4 → w.frozen? ⟨g, i, none⟩ = false
theorem Str4.start (w : World) (g : Nat) (t : TypeId) (a b c d : ByteArray) (h : w.heap[g]? = some (.cells #[.string a, .string b, .string c, .string d] t (0, 0))) : Str4 w g a b c d :=
  ⟨(Array.getElem?_eq_some_iff.1 h).1, by simp [World.cell?, h], by simp [World.cell?, h], by simp [World.cell?, h], by simp [World.cell?, h], fun i _ => by simp [World.frozen?, h]⟩
theorem Str4.below {w w' : World} {g : Nat} {a b c d : ByteArray} (h : Str4 w g a b c d) {B : Nat} (hb : Below B w w') (hg : g < B) : Str4 w' g a b c d :=
  ⟨Nat.lt_of_lt_of_le h.lt hb.size, by rw [hb.cell (p := ⟨g, 0, none⟩) hg]; exact h.c0, by rw [hb.cell (p := ⟨g, 1, none⟩) hg]; exact h.c1, by rw [hb.cell (p := ⟨g, 2, none⟩) hg]; exact h.c2, by rw [hb.cell (p := ⟨g, 3, none⟩) hg]; exact h.c3, fun i hi => by rw [hb.frozen (p := ⟨g, i, none⟩) hg]; exact h.fz i hi⟩
theorem Str4.alloc {w : World} {g : Nat} {a b c d : ByteArray} (h : Str4 w g a b c d) (o : Obj) : Str4 (w.alloc o) g a b c d := h.below (Below.alloc (Below.refl w.heap.size w) (Nat.le_refl _) o) h.lt
theorem Str4.set {w : World} {g : Nat} {a b c d : ByteArray} (h : Str4 w g a b c d) (i : Nat) (s : ByteArray) : Str4 (w.setCell ⟨g, i, none⟩ (.string s)) g (if i = 0 then s else a) (if i = 1 then s else b) (if i = 2 then s else c) (if i = 3 then s else d) := by
  have o : ∀ j v, w.cell? ⟨g, j, none⟩ = some (.string v) → (w.setCell ⟨g, i, none⟩ (.string s)).cell? ⟨g, j, none⟩ = some (.string (if i = j then s else v)) := fun j v hc => by
    by_cases e : i = j
    · subst e; rw [if_pos rfl]; exact World.cell?_setCell_same _ _ _ hc
    · rw [if_neg e, World.cell?_setCell_other _ _ _ _ (fun e2 => by injection e2 with _ e2 _; omega)]; exact hc
  exact ⟨by simpa using h.lt, o 0 _ h.c0, o 1 _ h.c1, o 2 _ h.c2, o 3 _ h.c3, fun j hj => by simpa using h.fz j hj⟩
theorem conv_byte (b : UInt8) (w : World) : (convert 44 9 (.slice (some ⟨w.heap.size, 0, none⟩) 1 1)).run Tryd.prog (w.alloc (.cells #[.int .u8 (b.toNat : Int)] 5)) = .ok (.string ⟨#[b]⟩) (w.alloc (.cells #[.int .u8 (b.toNat : Int)] 5)) := by
  refine Sc.run_string (w.alloc _) [b] (some ⟨w.heap.size, 0, none⟩) 1 (Or.inr ⟨w.heap.size, 0, rfl, by simp, fun j hj => ?_⟩)
  obtain rfl : j = 0 := by simpa [Sc.nums] using hj
  simp [Sc.nums, go_sem]
/-- what a word returns. -/
def RetWd (W : World) (ls : List T3) (e : Ending) (w' : World) : Prop :=
  ∃ s0 s1 s2 s3, e = .returned (.agg #[.string s0, .string s1, .string s2, .string s3]) ∧ Below W.heap.size W w' ∧ WdIs ls s0 s1 s2 s3
def WdAt (w0 : World) (g : Nat) (ls : List T3) (vi : Value) (wr : World) (gk : Nat) : Prop :=
  ∃ (j : Nat) (s0 s1 s2 s3 : ByteArray), vi = .int .i64 (j : Int) ∧ j ≤ ls.length ∧ ls.length - j ≤ gk ∧ Below g w0 wr ∧ Str4 wr g s0 s1 s2 s3 ∧ WdIs (ls.take j) s0 s1 s2 s3

set_option maxHeartbeats 4000000 in
set_option maxRecDepth 100000 in
theorem word_any (p : Option Addr) (ls : List T3) (c : Nat) (W : World) (hr : Tri W p ls) (hl : ls.length ≤ 8) (hok : ∀ t ∈ ls, t.ok) :
    Calls Tryd.prog 5 #[.slice p ls.length c] W (RetWd W ls) := by
  have HR := Lib.hid hr; clear hr
  have HOK := Lib.hid hok; clear hok
  have HL := Lib.hid hl
  obtain ⟨n, hn⟩ : ∃ n, ls.length = n := ⟨_, rfl⟩
  rw [hn] at hl ⊢
  have HN := Lib.hid hn
  clear hn
  go_enter Tryd.func5, Tryd.ntmps5
  go_upto_region 3 with fail
  obtain ⟨w0, hw0⟩ : ∃ w0, ((W.alloc (.cells #[.string ⟨#[]⟩, .string ⟨#[]⟩, .string ⟨#[]⟩, .string ⟨#[]⟩] 34)).alloc (.cells #[.string ⟨#[]⟩, .string ⟨#[]⟩, .string ⟨#[]⟩, .string ⟨#[]⟩] 34)) = w0 := ⟨_, rfl⟩
  rw [hw0]
  have HB0 := Lib.hid (show Below W.heap.size W w0 from hw0 ▸ (((Below.refl W.heap.size W).alloc (Nat.le_refl _) _).alloc (by simp) _))
  have hw0s : w0.heap.size = W.heap.size + 1 + 1 := by rw [← hw0]; simp
  have HS0 := Lib.hid (show Str4 w0 (W.heap.size + 1) ⟨#[]⟩ ⟨#[]⟩ ⟨#[]⟩ ⟨#[]⟩ from by
    refine Str4.start w0 _ 34 _ _ _ _ ?_
    rw [← hw0]
    simpa using heap_alloc_new (W.alloc (.cells #[.string ⟨#[]⟩, .string ⟨#[]⟩, .string ⟨#[]⟩, .string ⟨#[]⟩] 34)) (.cells #[.string ⟨#[]⟩, .string ⟨#[]⟩, .string ⟨#[]⟩, .string ⟨#[]⟩] 34))
  have HE0 := Lib.hid (show Str4 w0 W.heap.size ⟨#[]⟩ ⟨#[]⟩ ⟨#[]⟩ ⟨#[]⟩ from by
    rw [← hw0]
    exact (Str4.start _ _ 34 _ _ _ _ (by simpa using heap_alloc_new W (.cells #[.string ⟨#[]⟩, .string ⟨#[]⟩, .string ⟨#[]⟩, .string ⟨#[]⟩] 34))).alloc _)
  have HW0 := Lib.hid hw0s
  clear hw0 hw0s
  obtain ⟨g, hg⟩ : ∃ g, W.heap.size + 1 = g := ⟨_, rfl⟩
  rw [hg] at HS0 HW0 ⊢
  go_wp2_with fail
  go_loopg [4] n (fun gk vi wr => Hid (WdAt w0 g ls vi wr gk))
  case atStart => exact Lib.hid ⟨0, _, _, _, _, by go_num, Nat.zero_le _, by rw [HN.out]; omega, Below.refl _ _, HS0.out, ⟨rfl, rfl, rfl, rfl⟩⟩
  case round =>
    have hrel2 := hrel.out
    clear hrel
    unfold WdAt at hrel2
    obtain ⟨j, s0, s1, s2, s3, rfl, hjn, hjg, hb, hs, hw⟩ := hrel2
    rw [HN.out] at hjn hjg
    have HB := Lib.hid hb
    have HS := Lib.hid hs
    have HW := Lib.hid hw
    clear hb hs hw
    by_cases hj : j < n
    · have hjz : (j : Int) < (n : Int) := by omega
      have hBW := HB0.out.trans (HB.out.mono (show W.heap.size ≤ g by omega))
      obtain ⟨b, o, rfl, hbl, ca, cb, cc⟩ := tri_cell HR.out hBW (j := j) (by have := HN.out; omega)
      have hjl : j < ls.length := by have := HN.out; omega
      have htk := HOK.out (ls.getD j default) (by rw [List.getD, List.getElem?_eq_getElem hjl]; exact List.getElem_mem hjl)
      have HST := Lib.hid (fun t0 t1 t2 t3 e0 e1 e2 e3 => wd_step hjl (t0 := t0) (t1 := t1) (t2 := t2) (t3 := t3) HW.out e0 e1 e2 e3)
      generalize ls.getD j default = t at ca cb cc htk HST
      obtain ⟨x, y, z⟩ := t
      obtain ⟨⟨hx0, hx1⟩, ⟨hy0, hy1⟩, hz0, hz1⟩ := htk
      simp only at ca cb cc hx0 hx1 hy0 hy1 hz0 hz1
      clear hBW hjl
      obtain ⟨q, hq, hq2⟩ : ∃ q, x % 2 = q ∧ (q = 0 ∨ q = 1) := ⟨_, rfl, by omega⟩
      obtain ⟨r, hr, hr2⟩ : ∃ q, y % 2 = q ∧ (q = 0 ∨ q = 1) := ⟨_, rfl, by omega⟩
      obtain ⟨k, hk, hk2⟩ : ∃ q, z % 3 = q ∧ (q = 0 ∨ q = 1 ∨ q = 2) := ⟨_, rfl, by omega⟩
      have hkb : ∃ m : Bool, (k == 1) = m := ⟨_, rfl⟩
      obtain ⟨m, hm⟩ := hkb
      have hz := HW.out.len
      have htl : (ls.take j).length ≤ 8 := by rw [List.length_take]; omega
      obtain ⟨l0, c0, c1, c2, c3, fz⟩ := HS.out
      have f0 := fz 0 (by omega)
      have f1 := fz 1 (by omega)
      have f2 := fz 2 (by omega)
      have f3 := fz 3 (by omega)
      have F : ∀ (s : ByteArray) (bs : Array UInt8) (w : World), s.size ≤ 60 → bs.size ≤ 4 → _ := fun s bs w h1 h2 => run_string_add_sum (P := Tryd.prog) (w := w) s ⟨bs⟩ (by show s.size + bs.size ≤ _; omega)
      have d : ∀ (nq : Nat) (q : Int) (i : Nat), ((wr.drewN nq).alloc (.cells #[.int .u8 q] 5)).cell? ⟨g, i, none⟩ = wr.cell? ⟨g, i, none⟩ ∧ ((wr.drewN nq).alloc (.cells #[.int .u8 q] 5)).frozen? ⟨g, i, none⟩ = wr.frozen? ⟨g, i, none⟩ := fun nq q i => by
        have hb : Below wr.heap.size wr ((wr.drewN nq).alloc (.cells #[.int .u8 q] 5)) := (below_drewN (Below.refl _ wr) nq).alloc (Nat.le_refl _) _
        exact ⟨hb.cell (p := ⟨g, i, none⟩) l0, hb.frozen (p := ⟨g, i, none⟩) l0⟩
      have HA := Lib.hid (fun (nq : Nat) (q : Int) => HS.out.below (B := wr.heap.size) (show Below wr.heap.size wr ((wr.drewN nq).alloc (.cells #[.int .u8 q] 5)) from (below_drewN (Below.refl _ wr) nq).alloc (Nat.le_refl _) _) l0)
      have HBA := Lib.hid (fun (nq : Nat) (q : Int) => show Below g w0 ((wr.drewN nq).alloc (.cells #[.int .u8 q] 5)) from (below_drewN HB.out nq).alloc (show g ≤ (wr.drewN nq).heap.size from Nat.le_of_lt l0) _)
      have d0 := fun nq q => (d nq q 0).1.trans c0
      have d1 := fun nq q => (d nq q 1).1.trans c1
      have d2 := fun nq q => (d nq q 2).1.trans c2
      have d3 := fun nq q => (d nq q 3).1.trans c3
      have g0 := fun nq q => (d nq q 0).2.trans f0
      have g1 := fun nq q => (d nq q 1).2.trans f1
      have g2 := fun nq q => (d nq q 2).2.trans f2
      have g3 := fun nq q => (d nq q 3).2.trans f3
      have HF := Lib.hid F
      have HFZ := Lib.hid fz
      have z0 : s0.size ≤ 24 := by omega
      have z1 : s1.size ≤ 24 := by omega
      have z2 : s2.size ≤ 24 := by omega
      have z3 : s3.size ≤ 24 := by omega
      clear F fz hz htl d f1 f2 f3
      go_upto_region 5 with fail
      rcases hq2 with rfl | rfl
      · rcases hr2 with rfl | rfl
        · cases m
          · have hcv : ∀ nq : Nat, (convert 44 9 (.slice (some ⟨wr.heap.size, 0, none⟩) 1 1)).run Tryd.prog ((wr.drewN nq).alloc (.cells #[.int .u8 97] 5)) = .ok (.string ⟨#[97]⟩) ((wr.drewN nq).alloc (.cells #[.int .u8 97] 5)) := fun nq => conv_byte 97 (wr.drewN nq)
            have a0 := fun w => HF.out s0 #[97] w (by omega) (by decide)
            have a1 := fun w => HF.out s1 #[49] w (by omega) (by decide)
            have a2 := fun w => HF.out s2 #[49] w (by omega) (by decide)
            have a3 := fun w => HF.out s3 #[49] w (by omega) (by decide)
            go_quiet (fail)
            go_wp2_with fail
            go_roundg (n - (j + 1))
            case measure => omega
            case rel => exact Lib.hid ⟨j + 1, s0 ++ ⟨#[97]⟩, s1 ++ ⟨#[49]⟩, s2 ++ ⟨#[49]⟩, s3 ++ ⟨#[49]⟩, by go_num, by rw [HN.out]; omega, by rw [HN.out]; exact Nat.le_refl _, (Below.setCell (p := ⟨g, 3, none⟩) (Below.setCell (p := ⟨g, 2, none⟩) (Below.setCell (p := ⟨g, 1, none⟩) (Below.setCell (p := ⟨g, 0, none⟩) (HBA.out _ _) (Nat.le_refl g) _) (Nat.le_refl g) _) (Nat.le_refl g) _) (Nat.le_refl g) _), (Str4.set (Str4.set (Str4.set (Str4.set (HA.out _ _) 0 _) 1 _) 2 _) 3 _), HST.out _ _ _ _ (by simp [wd0, T3.u, T3.s, T3.m, wdB, hq, hr, hk, hm]) (by simp [wd1, T3.s, hr]) (by simp [wd2, T3.m, hk, hm]) (by simp [wd3, T3.u, T3.m, hq, hk, hm])⟩
          · have hcv : ∀ nq : Nat, (convert 44 9 (.slice (some ⟨wr.heap.size, 0, none⟩) 1 1)).run Tryd.prog ((wr.drewN nq).alloc (.cells #[.int .u8 97] 5)) = .ok (.string ⟨#[97]⟩) ((wr.drewN nq).alloc (.cells #[.int .u8 97] 5)) := fun nq => conv_byte 97 (wr.drewN nq)
            have a0 := fun w => HF.out s0 #[97] w (by omega) (by decide)
            have a1 := fun w => HF.out s1 #[49] w (by omega) (by decide)
            have a2 := fun w => HF.out s2 #[49] w (by omega) (by decide)
            have a3 := fun w => HF.out s3 #[49] w (by omega) (by decide)
            have b0 := fun w => HF.out (s0 ++ ⟨#[97]⟩) #[204, 129] w (by rw [ByteArray.size_append]; show _ + 1 ≤ _; omega) (by decide)
            have b2 := fun w => HF.out (s2 ++ ⟨#[49]⟩) #[50] w (by rw [ByteArray.size_append]; show _ + 1 ≤ _; omega) (by decide)
            have b3 := fun w => HF.out (s3 ++ ⟨#[49]⟩) #[49] w (by rw [ByteArray.size_append]; show _ + 1 ≤ _; omega) (by decide)
            go_quiet (fail)
            go_wp2_with fail
            go_roundg (n - (j + 1))
            case measure => omega
            case rel => exact Lib.hid ⟨j + 1, (s0 ++ ⟨#[97]⟩) ++ ⟨#[204, 129]⟩, s1 ++ ⟨#[49]⟩, (s2 ++ ⟨#[49]⟩) ++ ⟨#[50]⟩, (s3 ++ ⟨#[49]⟩) ++ ⟨#[49]⟩, by go_num, by rw [HN.out]; omega, by rw [HN.out]; exact Nat.le_refl _, (Below.setCell (p := ⟨g, 3, none⟩) (Below.setCell (p := ⟨g, 2, none⟩) (Below.setCell (p := ⟨g, 0, none⟩) (Below.setCell (p := ⟨g, 3, none⟩) (Below.setCell (p := ⟨g, 2, none⟩) (Below.setCell (p := ⟨g, 1, none⟩) (Below.setCell (p := ⟨g, 0, none⟩) (HBA.out _ _) (Nat.le_refl g) _) (Nat.le_refl g) _) (Nat.le_refl g) _) (Nat.le_refl g) _) (Nat.le_refl g) _) (Nat.le_refl g) _) (Nat.le_refl g) _), (Str4.set (Str4.set (Str4.set (Str4.set (Str4.set (Str4.set (Str4.set (HA.out _ _) 0 _) 1 _) 2 _) 3 _) 0 _) 2 _) 3 _), HST.out _ _ _ _ (by simp [wd0, T3.u, T3.s, T3.m, wdB, hq, hr, hk, hm]) (by simp [wd1, T3.s, hr]) (by simp [wd2, T3.m, hk, hm]) (by simp [wd3, T3.u, T3.m, hq, hk, hm])⟩
        · cases m
          · have hcv : ∀ nq : Nat, (convert 44 9 (.slice (some ⟨wr.heap.size, 0, none⟩) 1 1)).run Tryd.prog ((wr.drewN nq).alloc (.cells #[.int .u8 98] 5)) = .ok (.string ⟨#[98]⟩) ((wr.drewN nq).alloc (.cells #[.int .u8 98] 5)) := fun nq => conv_byte 98 (wr.drewN nq)
            have a0 := fun w => HF.out s0 #[98] w (by omega) (by decide)
            have a1 := fun w => HF.out s1 #[50] w (by omega) (by decide)
            have a2 := fun w => HF.out s2 #[49] w (by omega) (by decide)
            have a3 := fun w => HF.out s3 #[49] w (by omega) (by decide)
            go_quiet (fail)
            go_wp2_with fail
            go_roundg (n - (j + 1))
            case measure => omega
            case rel => exact Lib.hid ⟨j + 1, s0 ++ ⟨#[98]⟩, s1 ++ ⟨#[50]⟩, s2 ++ ⟨#[49]⟩, s3 ++ ⟨#[49]⟩, by go_num, by rw [HN.out]; omega, by rw [HN.out]; exact Nat.le_refl _, (Below.setCell (p := ⟨g, 3, none⟩) (Below.setCell (p := ⟨g, 2, none⟩) (Below.setCell (p := ⟨g, 1, none⟩) (Below.setCell (p := ⟨g, 0, none⟩) (HBA.out _ _) (Nat.le_refl g) _) (Nat.le_refl g) _) (Nat.le_refl g) _) (Nat.le_refl g) _), (Str4.set (Str4.set (Str4.set (Str4.set (HA.out _ _) 0 _) 1 _) 2 _) 3 _), HST.out _ _ _ _ (by simp [wd0, T3.u, T3.s, T3.m, wdB, hq, hr, hk, hm]) (by simp [wd1, T3.s, hr]) (by simp [wd2, T3.m, hk, hm]) (by simp [wd3, T3.u, T3.m, hq, hk, hm])⟩
          · have hcv : ∀ nq : Nat, (convert 44 9 (.slice (some ⟨wr.heap.size, 0, none⟩) 1 1)).run Tryd.prog ((wr.drewN nq).alloc (.cells #[.int .u8 98] 5)) = .ok (.string ⟨#[98]⟩) ((wr.drewN nq).alloc (.cells #[.int .u8 98] 5)) := fun nq => conv_byte 98 (wr.drewN nq)
            have a0 := fun w => HF.out s0 #[98] w (by omega) (by decide)
            have a1 := fun w => HF.out s1 #[50] w (by omega) (by decide)
            have a2 := fun w => HF.out s2 #[49] w (by omega) (by decide)
            have a3 := fun w => HF.out s3 #[49] w (by omega) (by decide)
            have b0 := fun w => HF.out (s0 ++ ⟨#[98]⟩) #[204, 129] w (by rw [ByteArray.size_append]; show _ + 1 ≤ _; omega) (by decide)
            have b2 := fun w => HF.out (s2 ++ ⟨#[49]⟩) #[50] w (by rw [ByteArray.size_append]; show _ + 1 ≤ _; omega) (by decide)
            have b3 := fun w => HF.out (s3 ++ ⟨#[49]⟩) #[49] w (by rw [ByteArray.size_append]; show _ + 1 ≤ _; omega) (by decide)
            go_quiet (fail)
            go_wp2_with fail
            go_roundg (n - (j + 1))
            case measure => omega
            case rel => exact Lib.hid ⟨j + 1, (s0 ++ ⟨#[98]⟩) ++ ⟨#[204, 129]⟩, s1 ++ ⟨#[50]⟩, (s2 ++ ⟨#[49]⟩) ++ ⟨#[50]⟩, (s3 ++ ⟨#[49]⟩) ++ ⟨#[49]⟩, by go_num, by rw [HN.out]; omega, by rw [HN.out]; exact Nat.le_refl _, (Below.setCell (p := ⟨g, 3, none⟩) (Below.setCell (p := ⟨g, 2, none⟩) (Below.setCell (p := ⟨g, 0, none⟩) (Below.setCell (p := ⟨g, 3, none⟩) (Below.setCell (p := ⟨g, 2, none⟩) (Below.setCell (p := ⟨g, 1, none⟩) (Below.setCell (p := ⟨g, 0, none⟩) (HBA.out _ _) (Nat.le_refl g) _) (Nat.le_refl g) _) (Nat.le_refl g) _) (Nat.le_refl g) _) (Nat.le_refl g) _) (Nat.le_refl g) _) (Nat.le_refl g) _), (Str4.set (Str4.set (Str4.set (Str4.set (Str4.set (Str4.set (Str4.set (HA.out _ _) 0 _) 1 _) 2 _) 3 _) 0 _) 2 _) 3 _), HST.out _ _ _ _ (by simp [wd0, T3.u, T3.s, T3.m, wdB, hq, hr, hk, hm]) (by simp [wd1, T3.s, hr]) (by simp [wd2, T3.m, hk, hm]) (by simp [wd3, T3.u, T3.m, hq, hk, hm])⟩
      · rcases hr2 with rfl | rfl
        · cases m
          · have hcv : ∀ nq : Nat, (convert 44 9 (.slice (some ⟨wr.heap.size, 0, none⟩) 1 1)).run Tryd.prog ((wr.drewN nq).alloc (.cells #[.int .u8 65] 5)) = .ok (.string ⟨#[65]⟩) ((wr.drewN nq).alloc (.cells #[.int .u8 65] 5)) := fun nq => conv_byte 65 (wr.drewN nq)
            have a0 := fun w => HF.out s0 #[65] w (by omega) (by decide)
            have a1 := fun w => HF.out s1 #[49] w (by omega) (by decide)
            have a2 := fun w => HF.out s2 #[49] w (by omega) (by decide)
            have a3 := fun w => HF.out s3 #[50] w (by omega) (by decide)
            go_quiet (fail)
            go_wp2_with fail
            go_roundg (n - (j + 1))
            case measure => omega
            case rel => exact Lib.hid ⟨j + 1, s0 ++ ⟨#[65]⟩, s1 ++ ⟨#[49]⟩, s2 ++ ⟨#[49]⟩, s3 ++ ⟨#[50]⟩, by go_num, by rw [HN.out]; omega, by rw [HN.out]; exact Nat.le_refl _, (Below.setCell (p := ⟨g, 3, none⟩) (Below.setCell (p := ⟨g, 2, none⟩) (Below.setCell (p := ⟨g, 1, none⟩) (Below.setCell (p := ⟨g, 0, none⟩) (HBA.out _ _) (Nat.le_refl g) _) (Nat.le_refl g) _) (Nat.le_refl g) _) (Nat.le_refl g) _), (Str4.set (Str4.set (Str4.set (Str4.set (HA.out _ _) 0 _) 1 _) 2 _) 3 _), HST.out _ _ _ _ (by simp [wd0, T3.u, T3.s, T3.m, wdB, hq, hr, hk, hm]) (by simp [wd1, T3.s, hr]) (by simp [wd2, T3.m, hk, hm]) (by simp [wd3, T3.u, T3.m, hq, hk, hm])⟩
          · have hcv : ∀ nq : Nat, (convert 44 9 (.slice (some ⟨wr.heap.size, 0, none⟩) 1 1)).run Tryd.prog ((wr.drewN nq).alloc (.cells #[.int .u8 65] 5)) = .ok (.string ⟨#[65]⟩) ((wr.drewN nq).alloc (.cells #[.int .u8 65] 5)) := fun nq => conv_byte 65 (wr.drewN nq)
            have a0 := fun w => HF.out s0 #[65] w (by omega) (by decide)
            have a1 := fun w => HF.out s1 #[49] w (by omega) (by decide)
            have a2 := fun w => HF.out s2 #[49] w (by omega) (by decide)
            have a3 := fun w => HF.out s3 #[50] w (by omega) (by decide)
            have b0 := fun w => HF.out (s0 ++ ⟨#[65]⟩) #[204, 129] w (by rw [ByteArray.size_append]; show _ + 1 ≤ _; omega) (by decide)
            have b2 := fun w => HF.out (s2 ++ ⟨#[49]⟩) #[50] w (by rw [ByteArray.size_append]; show _ + 1 ≤ _; omega) (by decide)
            have b3 := fun w => HF.out (s3 ++ ⟨#[50]⟩) #[49] w (by rw [ByteArray.size_append]; show _ + 1 ≤ _; omega) (by decide)
            go_quiet (fail)
            go_wp2_with fail
            go_roundg (n - (j + 1))
            case measure => omega
            case rel => exact Lib.hid ⟨j + 1, (s0 ++ ⟨#[65]⟩) ++ ⟨#[204, 129]⟩, s1 ++ ⟨#[49]⟩, (s2 ++ ⟨#[49]⟩) ++ ⟨#[50]⟩, (s3 ++ ⟨#[50]⟩) ++ ⟨#[49]⟩, by go_num, by rw [HN.out]; omega, by rw [HN.out]; exact Nat.le_refl _, (Below.setCell (p := ⟨g, 3, none⟩) (Below.setCell (p := ⟨g, 2, none⟩) (Below.setCell (p := ⟨g, 0, none⟩) (Below.setCell (p := ⟨g, 3, none⟩) (Below.setCell (p := ⟨g, 2, none⟩) (Below.setCell (p := ⟨g, 1, none⟩) (Below.setCell (p := ⟨g, 0, none⟩) (HBA.out _ _) (Nat.le_refl g) _) (Nat.le_refl g) _) (Nat.le_refl g) _) (Nat.le_refl g) _) (Nat.le_refl g) _) (Nat.le_refl g) _) (Nat.le_refl g) _), (Str4.set (Str4.set (Str4.set (Str4.set (Str4.set (Str4.set (Str4.set (HA.out _ _) 0 _) 1 _) 2 _) 3 _) 0 _) 2 _) 3 _), HST.out _ _ _ _ (by simp [wd0, T3.u, T3.s, T3.m, wdB, hq, hr, hk, hm]) (by simp [wd1, T3.s, hr]) (by simp [wd2, T3.m, hk, hm]) (by simp [wd3, T3.u, T3.m, hq, hk, hm])⟩
        · cases m
          · have hcv : ∀ nq : Nat, (convert 44 9 (.slice (some ⟨wr.heap.size, 0, none⟩) 1 1)).run Tryd.prog ((wr.drewN nq).alloc (.cells #[.int .u8 66] 5)) = .ok (.string ⟨#[66]⟩) ((wr.drewN nq).alloc (.cells #[.int .u8 66] 5)) := fun nq => conv_byte 66 (wr.drewN nq)
            have a0 := fun w => HF.out s0 #[66] w (by omega) (by decide)
            have a1 := fun w => HF.out s1 #[50] w (by omega) (by decide)
            have a2 := fun w => HF.out s2 #[49] w (by omega) (by decide)
            have a3 := fun w => HF.out s3 #[50] w (by omega) (by decide)
            go_quiet (fail)
            go_wp2_with fail
            go_roundg (n - (j + 1))
            case measure => omega
            case rel => exact Lib.hid ⟨j + 1, s0 ++ ⟨#[66]⟩, s1 ++ ⟨#[50]⟩, s2 ++ ⟨#[49]⟩, s3 ++ ⟨#[50]⟩, by go_num, by rw [HN.out]; omega, by rw [HN.out]; exact Nat.le_refl _, (Below.setCell (p := ⟨g, 3, none⟩) (Below.setCell (p := ⟨g, 2, none⟩) (Below.setCell (p := ⟨g, 1, none⟩) (Below.setCell (p := ⟨g, 0, none⟩) (HBA.out _ _) (Nat.le_refl g) _) (Nat.le_refl g) _) (Nat.le_refl g) _) (Nat.le_refl g) _), (Str4.set (Str4.set (Str4.set (Str4.set (HA.out _ _) 0 _) 1 _) 2 _) 3 _), HST.out _ _ _ _ (by simp [wd0, T3.u, T3.s, T3.m, wdB, hq, hr, hk, hm]) (by simp [wd1, T3.s, hr]) (by simp [wd2, T3.m, hk, hm]) (by simp [wd3, T3.u, T3.m, hq, hk, hm])⟩
          · have hcv : ∀ nq : Nat, (convert 44 9 (.slice (some ⟨wr.heap.size, 0, none⟩) 1 1)).run Tryd.prog ((wr.drewN nq).alloc (.cells #[.int .u8 66] 5)) = .ok (.string ⟨#[66]⟩) ((wr.drewN nq).alloc (.cells #[.int .u8 66] 5)) := fun nq => conv_byte 66 (wr.drewN nq)
            have a0 := fun w => HF.out s0 #[66] w (by omega) (by decide)
            have a1 := fun w => HF.out s1 #[50] w (by omega) (by decide)
            have a2 := fun w => HF.out s2 #[49] w (by omega) (by decide)
            have a3 := fun w => HF.out s3 #[50] w (by omega) (by decide)
            have b0 := fun w => HF.out (s0 ++ ⟨#[66]⟩) #[204, 129] w (by rw [ByteArray.size_append]; show _ + 1 ≤ _; omega) (by decide)
            have b2 := fun w => HF.out (s2 ++ ⟨#[49]⟩) #[50] w (by rw [ByteArray.size_append]; show _ + 1 ≤ _; omega) (by decide)
            have b3 := fun w => HF.out (s3 ++ ⟨#[50]⟩) #[49] w (by rw [ByteArray.size_append]; show _ + 1 ≤ _; omega) (by decide)
            go_quiet (fail)
            go_wp2_with fail
            go_roundg (n - (j + 1))
            case measure => omega
            case rel => exact Lib.hid ⟨j + 1, (s0 ++ ⟨#[66]⟩) ++ ⟨#[204, 129]⟩, s1 ++ ⟨#[50]⟩, (s2 ++ ⟨#[49]⟩) ++ ⟨#[50]⟩, (s3 ++ ⟨#[50]⟩) ++ ⟨#[49]⟩, by go_num, by rw [HN.out]; omega, by rw [HN.out]; exact Nat.le_refl _, (Below.setCell (p := ⟨g, 3, none⟩) (Below.setCell (p := ⟨g, 2, none⟩) (Below.setCell (p := ⟨g, 0, none⟩) (Below.setCell (p := ⟨g, 3, none⟩) (Below.setCell (p := ⟨g, 2, none⟩) (Below.setCell (p := ⟨g, 1, none⟩) (Below.setCell (p := ⟨g, 0, none⟩) (HBA.out _ _) (Nat.le_refl g) _) (Nat.le_refl g) _) (Nat.le_refl g) _) (Nat.le_refl g) _) (Nat.le_refl g) _) (Nat.le_refl g) _) (Nat.le_refl g) _), (Str4.set (Str4.set (Str4.set (Str4.set (Str4.set (Str4.set (Str4.set (HA.out _ _) 0 _) 1 _) 2 _) 3 _) 0 _) 2 _) 3 _), HST.out _ _ _ _ (by simp [wd0, T3.u, T3.s, T3.m, wdB, hq, hr, hk, hm]) (by simp [wd1, T3.s, hr]) (by simp [wd2, T3.m, hk, hm]) (by simp [wd3, T3.u, T3.m, hq, hk, hm])⟩
    · obtain rfl : j = n := by omega
      obtain ⟨l0, c0, c1, c2, c3, _⟩ := HS.out
      obtain ⟨_, r0, r1, r2, r3, fz⟩ := HE0.out.below HB.out (show W.heap.size < g by omega)
      have f0 := fz 0 (by omega)
      have f1 := fz 1 (by omega)
      have f2 := fz 2 (by omega)
      have f3 := fz 3 (by omega)
      clear fz
      go_wp2_with fail
      refine bodyPost_ret (v := .agg #[.string s0, .string s1, .string s2, .string s3]) (by simp [results, Tryd.results5, go_sem, r0, r1, r2, r3]) rfl ⟨s0, s1, s2, s3, rfl, ?_, ?_⟩
      · exact ((((HB0.out.trans (HB.out.mono (show W.heap.size ≤ g by omega))).setCell (p := ⟨W.heap.size, 0, none⟩) (Nat.le_refl _) _).setCell (p := ⟨W.heap.size, 1, none⟩) (Nat.le_refl _) _).setCell (p := ⟨W.heap.size, 2, none⟩) (Nat.le_refl _) _).setCell (p := ⟨W.heap.size, 3, none⟩) (Nat.le_refl _) _
      · have := HW.out
        rwa [List.take_of_length_le (by rw [HN.out]; omega)] at this
end Go.Proofs.YtjamkefndniljaaDoor
namespace Go.Proofs.YtjamkefndniljaaDoor
open Go.RowKit Go.ChangeShapes Go.WideShapes Go.Gz Go.Deep Go.Sort

def T3.rk (t : T3) : RkL := ⟨t.u, t.s, t.m⟩
theorem wd0_is : ∀ ls : List T3, encAll (rk0 (ls.map T3.rk)) = ls.flatMap wd0
  | [] => rfl
  | t :: ls => by
    have ih := wd0_is ls
    have e : encAll (rkC t.rk :: if t.rk.m then [769] else []) = wd0 t := by
      unfold T3.rk wd0
      cases t.u <;> cases t.s <;> cases t.m <;> rfl
    rw [List.map_cons, rk0, List.flatMap_cons, encAll_append, List.flatMap_cons, e]
    exact congrArg _ ih
theorem wd1_is : ∀ ls : List T3, ls.flatMap wd1 = (rk1 (ls.map T3.rk)).map fun w => if w = 10 then 49 else 50
  | [] => rfl
  | t :: ls => by
    have ih := wd1_is ls
    rw [List.flatMap_cons, ih]
    unfold rk1 T3.rk wd1
    cases h : t.s <;> simp [h]
theorem wd2_is : ∀ ls : List T3, ls.flatMap wd2 = (rk2 (ls.map T3.rk)).map fun w => if w = 32 then 49 else 50
  | [] => rfl
  | t :: ls => by
    have ih := wd2_is ls
    rw [List.flatMap_cons, ih]
    unfold rk2 T3.rk wd2
    cases h : t.m <;> simp [h]
theorem wd3_is : ∀ ls : List T3, ls.flatMap wd3 = (rk3 (ls.map T3.rk)).map fun w => if w = 2 then 49 else 50
  | [] => rfl
  | t :: ls => by
    have ih := wd3_is ls
    rw [List.flatMap_cons, ih]
    unfold rk3 T3.rk wd3
    cases h : t.m <;> cases h2 : t.u <;> simp [h, h2]

theorem one_u8 {H : Type} {enc : TypeId × Value → H} {P : Program} {W : World} {t : TypeId} {fuel : Nat} {v : Value} {x : DataW H × List MemPlace} (ht : P.underlying t = some (.int .u8)) (h : DataW.trod enc P W 0 (fun _ => true) true fuel t [v] = some x) : ∃ i : Int, v = .int .u8 i ∧ 0 ≤ i ∧ i ≤ 255 := by
  cases fuel with
  | zero => simp [DataW.trod] at h
  | succ n =>
    unfold DataW.trod at h
    rw [ht] at h
    split at h <;> simp_all
    rename_i he
    subst he
    obtain ⟨h1, h2⟩ := wf_bounds h.1.2
    have e1 : IntKind.u8.min = 0 := by decide
    have e2 : IntKind.u8.max = 255 := by decide
    omega
set_option maxRecDepth 100000 in
theorem tri_of {H : Type} {enc : TypeId × Value → H} {W : World} {fuel : Nat} {cs : List Value} {x : DataW H × List MemPlace} (h : DataW.trod enc Tryd.prog W 0 (fun _ => true) true fuel 43 cs = some x) :
    ∃ t : T3, cs = [.int .u8 t.a, .int .u8 t.b, .int .u8 t.c] ∧ t.ok := by
  obtain ⟨xs, m, _, _, hlen, hxl, hf⟩ := DataW.trod_array Tryd.underlying43 h
  have hC : Tryd.prog.cellsOf 43 = 3 := by kernel_rfl
  have c1 : Tryd.prog.cellsOf 5 = 1 := by kernel_rfl
  rw [hC] at hlen
  match cs, hlen with
  | [v0, v1, v2], _ =>
    match xs, hxl with
    | [y0, y1, y2], _ =>
      have h0 : DataW.trod enc Tryd.prog W 0 (fun _ => true) true m 5 [v0] = some y0 := by simpa [c1] using hf 0 (by omega)
      have h1 : DataW.trod enc Tryd.prog W 0 (fun _ => true) true m 5 [v1] = some y1 := by simpa [c1] using hf 1 (by omega)
      have h2 : DataW.trod enc Tryd.prog W 0 (fun _ => true) true m 5 [v2] = some y2 := by simpa [c1] using hf 2 (by omega)
      obtain ⟨a, rfl, ha⟩ := one_u8 Tryd.underlying5 h0
      obtain ⟨b, rfl, hb⟩ := one_u8 Tryd.underlying5 h1
      obtain ⟨c, rfl, hc⟩ := one_u8 Tryd.underlying5 h2
      exact ⟨⟨a, b, c⟩, rfl, ha, hb, hc⟩
set_option maxRecDepth 100000 in
/-- an argument that is a list of threes of bytes. -/
theorem arg_tris {H : Type} {enc : TypeId × Value → H} {W : World} {b0 : Nat} {v : Value} {d : DataW H} {ps : List MemPlace} (hval : Value.okWide Tryd.prog W .any b0 22 v) (hd : DataW.Trod enc Tryd.prog W 0 (fun _ => true) true 22 v d ps) :
    ∃ p ls c, v = .slice p ls.length c ∧ Tri W p ls ∧ ls.length ≤ 9223372036854775807 ∧ ∀ t ∈ ls, t.ok := by
  obtain ⟨a0, len, cap, rfl⟩ := okWide_slice Tryd.underlying22 hval
  obtain ⟨fuel, hf⟩ := hd
  rcases open_slice Tryd.underlying22 hf with ⟨h, _⟩ | ⟨a, len', cap', m, n, D, Pl, h, _, hl, hm, hmm, _, hi⟩
  · simp [Value.cells] at h
    obtain ⟨rfl, rfl, rfl⟩ := h
    exact ⟨none, [], 0, rfl, Or.inl rfl, by simp, by simp⟩
  · simp [Value.cells] at h
    obtain ⟨rfl, rfl, rfl⟩ := h
    simp only [if_true] at hmm
    subst hmm
    unfold maxLen at hm
    have hC : Tryd.prog.cellsOf 43 = 3 := by kernel_rfl
    have each : ∀ i, i < len → ∃ t : T3, (∀ z, z < 3 → W.cell? ((a.add (i * 3)).add z) = [Value.int .u8 t.a, .int .u8 t.b, .int .u8 t.c][z]?) ∧ t.ok := fun i hin => by
      obtain ⟨cs', hcs, ht⟩ := hi i (by omega)
      rw [hC] at hcs
      obtain ⟨r, rfl, hok⟩ := tri_of ht
      obtain ⟨_, _, hat⟩ := World.cells?_some hcs
      exact ⟨r, hat, hok⟩
    have pick : ∃ f : Nat → T3, ∀ i, i < len → (∀ z, z < 3 → W.cell? ((a.add (i * 3)).add z) = [Value.int .u8 (f i).a, .int .u8 (f i).b, .int .u8 (f i).c][z]?) ∧ (f i).ok :=
      ⟨fun i => if h : i < len then Classical.choose (each i h) else default, fun i h => by simp only [dif_pos h]; exact Classical.choose_spec (each i h)⟩
    obtain ⟨f, hf2⟩ := pick
    have hget : ∀ j, j < len → ((List.range len).map f).getD j default = f j := fun j hj => by simp [List.getD, hj]
    refine ⟨some a, (List.range len).map f, m, by simp, ?_, by simp; omega, fun x hx => ?_⟩
    · by_cases h0 : len = 0
      · exact Or.inl (by subst h0; rfl)
      · have hc0 := (hf2 0 (by omega)).1 0 (by omega)
        obtain ⟨b, off, spot⟩ := a
        have hc0' : W.cell? ⟨b, off + 0 * 3 + 0, spot⟩ = some (.int .u8 (f 0).a) := by
          have e : ((⟨b, off, spot⟩ : Addr).add (0 * 3)).add 0 = ⟨b, off, spot⟩ := by simp [Addr.add]
          rw [e] at hc0
          simpa using hc0
        have hsp : spot = none := Go.Proofs.cell_spot hc0'
        subst hsp
        refine Or.inr ⟨b, off, rfl, World.block_lt_of_cell? W _ hc0', fun j hj => ?_⟩
        have hj' : j < len := by simpa using hj
        have hz := (hf2 j hj').1
        rw [hget j hj']
        have z0 := hz 0 (by omega)
        have z1 := hz 1 (by omega)
        have z2 := hz 2 (by omega)
        simp only [Addr.add_lit] at z0 z1 z2
        exact ⟨z0, z1, z2⟩
    · obtain ⟨i, hi', rfl⟩ := List.mem_map.1 hx
      exact (hf2 i (List.mem_range.1 hi')).2
end Go.Proofs.YtjamkefndniljaaDoor
namespace Go.Proofs.YtjamkefndniljaaDoor.Sc
open Go.RowKit Go.Gz

theorem less_cmp : ∀ (x y : List UInt8), Op.bytesLess x y = (Lib.compareBytes x y == -1)
  | [], [] => rfl
  | [], _ :: _ => rfl
  | _ :: _, [] => rfl
  | a :: x, b :: y => by
    simp only [Op.bytesLess, Lib.compareBytes]
    by_cases c : a < b
    · simp [c]
    · by_cases d : b < a
      · have e : ¬ a = b := by rintro rfl; exact c d
        simp [c, d, e]
      · have e : a = b := by
          have h1 := UInt8.not_lt.1 c
          have h2 := UInt8.not_lt.1 d
          exact UInt8.le_antisymm h2 h1
        simp [e, less_cmp x y]
theorem eq_cmp : ∀ (x y : List UInt8), (x == y) = (Lib.compareBytes x y == 0)
  | [], [] => rfl
  | [], _ :: _ => rfl
  | _ :: _, [] => rfl
  | a :: x, b :: y => by
    have ih := eq_cmp x y
    simp only [Lib.compareBytes]
    by_cases c : a < b
    · have e : ¬ a = b := by rintro rfl; exact UInt8.lt_irrefl _ c
      simp [c, e]
    · by_cases d : b < a
      · have e : ¬ a = b := by rintro rfl; exact UInt8.lt_irrefl _ d
        simp [c, d, e]
      · have e : a = b := by
          have h1 := UInt8.not_lt.1 c
          have h2 := UInt8.not_lt.1 d
          exact UInt8.le_antisymm h2 h1
        subst e
        simp [ih]
theorem cmp_three : ∀ (x y : List UInt8), Lib.compareBytes x y = -1 ∨ Lib.compareBytes x y = 0 ∨ Lib.compareBytes x y = 1
  | [], [] => Or.inr (Or.inl rfl)
  | [], _ :: _ => Or.inl rfl
  | _ :: _, [] => Or.inr (Or.inr rfl)
  | a :: x, b :: y => by
    simp only [Lib.compareBytes]
    by_cases c : a < b
    · simp [c]
    · by_cases d : b < a
      · simp [c, d]
      · simp only [c, d, if_false]
        exact cmp_three x y

theorem refCompare_any (a b : ByteArray) (w : World) : Calls Tryd.prog 11 #[.string a, .string b] w fun e w' => e = .returned (.int .i64 (Lib.compareBytes a.data.toList b.data.toList)) ∧ w = w' := by
  have h1 := less_cmp a.data.toList b.data.toList
  have h2 := eq_cmp a.data.toList b.data.toList
  rw [← Lib.toList_data a, ← Lib.toList_data b] at h1 h2 ⊢
  rcases cmp_three a.toList b.toList with h | h | h
  · rw [h] at h1 h2 ⊢
    clear h
    rw [show ((-1 : Int) == -1) = true from by decide] at h1
    rw [show ((-1 : Int) == 0) = false from by decide] at h2
    go_enter Tryd.func11, Tryd.ntmps11
    go_wp2
    go_ret
    exact ⟨rfl, rfl⟩
  · rw [h] at h1 h2 ⊢
    clear h
    rw [show ((0 : Int) == -1) = false from by decide] at h1
    rw [show ((0 : Int) == 0) = true from by decide] at h2
    go_enter Tryd.func11, Tryd.ntmps11
    go_wp2
    go_ret
    exact ⟨rfl, rfl⟩
  · rw [h] at h1 h2 ⊢
    clear h
    rw [show ((1 : Int) == -1) = false from by decide] at h1
    rw [show ((1 : Int) == 0) = false from by decide] at h2
    go_enter Tryd.func11, Tryd.ntmps11
    go_wp2
    go_ret
    exact ⟨rfl, rfl⟩
end Go.Proofs.YtjamkefndniljaaDoor.Sc
namespace Go.Proofs.YtjamkefndniljaaDoor
open Go.RowKit Go.Gz Go.Sort

def rkQ (h : Nat) : Array Obj := #[.cells #[.int .i32 65] 21, .cells #[.int .i64 10, .int .i64 32, .int .i64 8] 26,
  .cells #[.int .i32 66] 21, .cells #[.int .i64 11, .int .i64 32, .int .i64 8] 26,
  .cells #[.int .i32 97] 21, .cells #[.int .i64 10, .int .i64 32, .int .i64 2] 26,
  .cells #[.int .i32 98] 21, .cells #[.int .i64 11, .int .i64 32, .int .i64 2] 26,
  .cells #[.int .i32 769] 21, .cells #[.int .i64 0, .int .i64 41, .int .i64 2] 26,
  .cells #[.slice (some ⟨h, 0, none⟩) 1 1, .slice (some ⟨h + 1, 0, none⟩) 1 1, .slice (some ⟨h + 1 + 1, 0, none⟩) 1 1, .slice (some ⟨h + 1 + 1 + 1, 0, none⟩) 1 1, .slice (some ⟨h + 1 + 1 + 1 + 1, 0, none⟩) 1 1, .slice (some ⟨h + 1 + 1 + 1 + 1 + 1, 0, none⟩) 1 1,
    .slice (some ⟨h + 1 + 1 + 1 + 1 + 1 + 1, 0, none⟩) 1 1, .slice (some ⟨h + 1 + 1 + 1 + 1 + 1 + 1 + 1, 0, none⟩) 1 1, .slice (some ⟨h + 1 + 1 + 1 + 1 + 1 + 1 + 1 + 1, 0, none⟩) 1 1, .slice (some ⟨h + 1 + 1 + 1 + 1 + 1 + 1 + 1 + 1 + 1, 0, none⟩) 1 1] 29,
  .cells #[.slice none 0 0, .slice (some ⟨h + 1 + 1 + 1 + 1 + 1 + 1 + 1 + 1 + 1 + 1, 0, none⟩) 5 5, .int .i64 0, .bool false] 33]
def rkW (w : World) : World := grow w (rkQ w.heap.size)
/-- the table's rows in memory. -/
def RkIn (w : World) (h : Nat) : Prop := ∀ k, k < 11 → w.heap[h + k]? = (rkQ h)[k]?
theorem rk_grow_at (w : World) (os : Array Obj) (k h : Nat) (e : w.heap.size + k = h) : (grow w os).heap[h]? = os[k]? := by
  subst e
  unfold grow
  rw [Array.getElem?_append_right (by omega), Nat.add_sub_cancel_left]
theorem rkW_at (w : World) (k h : Nat) (e : w.heap.size + k = h) : (rkW w).heap[h]? = (rkQ w.heap.size)[k]? := rk_grow_at w (rkQ w.heap.size) k h e
theorem rkIn_new (w : World) : RkIn (rkW w) w.heap.size := fun k _ => rkW_at w k _ rfl
theorem RkIn.lt {w : World} {h k : Nat} (H : RkIn w h) (hk : k < 11) : h + k < w.heap.size := by
  have e := H k hk
  rw [Array.getElem?_eq_getElem (show k < (rkQ h).size from Nat.lt_of_lt_of_le hk (by show 11 ≤ 12; omega))] at e
  exact (Array.getElem?_eq_some_iff.1 e).1
theorem RkIn.below {w w' : World} {h : Nat} (H : RkIn w h) (hb : Below w.heap.size w w') : RkIn w' h := fun k hk => (hb.block _ (H.lt hk)).trans (H k hk)
set_option maxRecDepth 100000 in
theorem RkIn.tab {w : World} {h : Nat} (H : RkIn w h) : TabIn w (rkT h) := by
  have at_ : ∀ k g, k < 11 → h + k = g → w.heap[g]? = (rkQ h)[k]? := fun k g hk e => e ▸ H k hk
  refine ⟨Or.inl rfl, wrs_lit _ _ 29 (0, 0) _ (by rw [at_ 10 _ (by omega) (by omega)]; rfl) fun x hx => ?_, by simp [rkT], by simp [rkT], by simp [rkT, rkR], fun x hx => ?_⟩
  · simp only [rkT, rkR, List.mem_cons, List.not_mem_nil, or_false] at hx
    rcases hx with rfl | rfl | rfl | rfl | rfl
    · exact ⟨⟨row_heap _ _ _ 21 (0, 0) _ (by rw [at_ 0 _ (by omega) (by omega)]; rfl), Nat.le_refl 1, fun h => by cases h⟩, ⟨els_lit _ _ 26 (0, 0) _ (by rw [at_ 1 _ (by omega) (by omega)]; rfl), Nat.le_refl 1, fun h => by cases h⟩⟩
    · exact ⟨⟨row_heap _ _ _ 21 (0, 0) _ (by rw [at_ 2 _ (by omega) (by omega)]; rfl), Nat.le_refl 1, fun h => by cases h⟩, ⟨els_lit _ _ 26 (0, 0) _ (by rw [at_ 3 _ (by omega) (by omega)]; rfl), Nat.le_refl 1, fun h => by cases h⟩⟩
    · exact ⟨⟨row_heap _ _ _ 21 (0, 0) _ (by rw [at_ 4 _ (by omega) (by omega)]; rfl), Nat.le_refl 1, fun h => by cases h⟩, ⟨els_lit _ _ 26 (0, 0) _ (by rw [at_ 5 _ (by omega) (by omega)]; rfl), Nat.le_refl 1, fun h => by cases h⟩⟩
    · exact ⟨⟨row_heap _ _ _ 21 (0, 0) _ (by rw [at_ 6 _ (by omega) (by omega)]; rfl), Nat.le_refl 1, fun h => by cases h⟩, ⟨els_lit _ _ 26 (0, 0) _ (by rw [at_ 7 _ (by omega) (by omega)]; rfl), Nat.le_refl 1, fun h => by cases h⟩⟩
    · exact ⟨⟨row_heap _ _ _ 21 (0, 0) _ (by rw [at_ 8 _ (by omega) (by omega)]; rfl), Nat.le_refl 1, fun h => by cases h⟩, ⟨els_lit _ _ 26 (0, 0) _ (by rw [at_ 9 _ (by omega) (by omega)]; rfl), Nat.le_refl 1, fun h => by cases h⟩⟩
  · simp only [rkT, rkR, List.mem_cons, List.not_mem_nil, or_false] at hx
    rcases hx with rfl | rfl | rfl | rfl | rfl <;> exact ⟨by simp, by simp⟩
theorem rkB_at (w : World) : BoxAt (rkW w) (w.heap.size + 1 + 1 + 1 + 1 + 1 + 1 + 1 + 1 + 1 + 1 + 1) (rkT w.heap.size) := by
  have e := rkW_at w 11 (w.heap.size + 1 + 1 + 1 + 1 + 1 + 1 + 1 + 1 + 1 + 1 + 1) (by omega)
  refine ⟨by unfold rkW; rw [size_grow]; show _ < _ + 12; omega, ?_, ?_, ?_, ?_⟩ <;> (unfold World.cell?; rw [e]; rfl)
theorem build_tabR (q : Option Addr) (m l : Nat) (w : World) : (Instr.build 33 #[(1, .slice q m l)]).run Tryd.prog w = .ok (.agg #[.slice none 0 0, .slice q m l, .int .i64 0, .bool false]) w := by kernel_rfl
theorem build_el2 (s t : Int) (w : World) : (Instr.build 26 #[(1, .int .i64 s), (2, .int .i64 t)]).run Tryd.prog w = .ok (.agg #[.int .i64 0, .int .i64 s, .int .i64 t]) w := by kernel_rfl

theorem rk_v (l : List RkL) : ∀ r ∈ rk0 l, V r := fun r hr => by
  obtain ⟨⟨u, s, m⟩, _, hx⟩ := List.mem_flatMap.1 hr
  cases u <;> cases s <;> cases m <;> (simp [rkC] at hx; try rcases hx with rfl | rfl) <;> (try subst hx) <;> (unfold V; omega)
theorem kind_len (f : RkL → List Int) (hf : ∀ x, (f x).length ≤ 2) : ∀ l : List RkL, (l.flatMap f).length ≤ 2 * l.length
  | [] => by simp
  | x :: l => by
    have := kind_len f hf l
    have := hf x
    rw [List.flatMap_cons, List.length_append, List.length_cons]; omega
theorem rk_klen (h : Nat) (l : List RkL) (hl : l.length ≤ 8) : (keyOf (rkT h) (rk0 l)).length ≤ 640 := by
  rw [rk_key, keyB_length4]
  have h1 : (rk1 l).length = l.length := by simp [rk1]
  have h2 : (rk2 l).length ≤ 2 * l.length := kind_len _ (fun x => by cases x.m <;> simp) l
  have h3 : (rk3 l).length ≤ 2 * l.length := kind_len _ (fun x => by cases x.m <;> simp) l
  simp only [List.length_nil]; omega
/-- a word's text has its key, without a fault. -/
theorem rk_made {h : Nat} {ls : List T3} {s0 s1 s2 s3 : ByteArray} (hw : WdIs ls s0 s1 s2 s3) (hl : ls.length ≤ 8) {k : List UInt8} {er : Int} (hm : MakeIs (rkT h) s0 k er) : er = 0 ∧ k = keyOf (rkT h) (rk0 (ls.map T3.rk)) := by
  have hz := hw.len.1
  rcases makeIs_ok hm (rk_v _) (hw.h0.trans (wd0_is ls).symm) (by omega) (rk_may h) with ⟨a, _⟩ | ⟨_, a, c⟩
  · have := rk_klen h (ls.map T3.rk) (by rw [List.length_map]; exact hl)
    omega
  · exact ⟨a, c⟩
/-- what the law wants of two words. -/
def rkWant (l m : List T3) : Int :=
  if Lib.compareBytes (l.flatMap wd1) (m.flatMap wd1) = 0 then (if Lib.compareBytes (l.flatMap wd2) (m.flatMap wd2) = 0 then Lib.compareBytes (l.flatMap wd3) (m.flatMap wd3) else Lib.compareBytes (l.flatMap wd2) (m.flatMap wd2)) else Lib.compareBytes (l.flatMap wd1) (m.flatMap wd1)
theorem rk_want (h : Nat) (l m : List T3) : Lib.compareBytes (keyOf (rkT h) (rk0 (l.map T3.rk))) (keyOf (rkT h) (rk0 (m.map T3.rk))) = rkWant l m := by
  unfold rkWant
  rw [rk_cmp, wd1_is, wd1_is, wd2_is, wd2_is, wd3_is, wd3_is, cb_kinds (show (10 : Int) < 11 by omega) (by decide) _ _ (rk1_ok _) (rk1_ok _), cb_kinds (show (32 : Int) < 41 by omega) (by decide) _ _ (rk2_ok _) (rk2_ok _), cb_kinds (show (2 : Int) < 8 by omega) (by decide) _ _ (rk3_ok _) (rk3_ok _)]
end Go.Proofs.YtjamkefndniljaaDoor
namespace Go.Proofs.YtjamkefndniljaaDoor
open Go.RowKit Go.Gz Go.Sort

theorem rk_order (a b : ByteArray) (W : World) : Calls Tryd.prog 7 #[.string a, .string b] W fun e w' => e = .returned (.int .i64 (Lib.compareBytes a.data.toList b.data.toList)) ∧ W = w' := by
  have C0 := Lib.hid (Sc.refCompare_any a b W)
  go_enter Tryd.func7, Tryd.ntmps7
  go_wp2_with fail
  refine C0.out.mono ?_
  rintro e w1 ⟨rfl, rfl⟩
  go_wp2_with fail
  go_ret
  exact ⟨rfl, rfl⟩

set_option maxHeartbeats 4000000 in
set_option maxRecDepth 100000 in
theorem rank_walk (p q : Option Addr) (ls ms : List T3) (c d : Nat) (W : World) (hU : Lib.Utf8Tabs 1 2 W) (hp : Tri W p ls) (hq : Tri W q ms) (hls : ls.length ≤ 9223372036854775807) (hms : ms.length ≤ 9223372036854775807) (ho : ∀ t ∈ ls, t.ok) (hk : ∀ t ∈ ms, t.ok) :
    Calls Tryd.prog 3 #[.slice p ls.length c, .slice q ms.length d] W fun e w' => e = .returned (.bool true) ∧ Below W.heap.size W w' := by
  have C0 := Lib.hid (awake_yes W hU)
  have b3 := fun (a b c : Int) (w : World) => build_el3 a b c w
  have b2 := build_el2
  have br := build_row
  have bt := build_tabR
  have HU := Lib.hid hU; clear hU
  have HP := Lib.hid hp; clear hp
  have HQ := Lib.hid hq; clear hq
  have HO := Lib.hid ho; clear ho
  have HK := Lib.hid hk; clear hk
  go_enter Tryd.func3, Tryd.ntmps3
  go_wp2_with fail
  refine C0.out.mono ?_
  rintro e w1 ⟨rfl, hb1⟩
  have HB1 := Lib.hid hb1
  clear hb1 C0
  obtain ⟨n, hn⟩ : ∃ n, ls.length = n := ⟨_, rfl⟩
  obtain ⟨m, hm⟩ : ∃ n, ms.length = n := ⟨_, rfl⟩
  rw [hn] at hls ⊢
  rw [hm] at hms ⊢
  have HN := Lib.hid hn
  have HM := Lib.hid hm
  clear hn hm
  by_cases h8 : 8 < n
  · have h8z : (8 : Int) < (n : Int) := by omega
    go_wp2_with fail
    go_ret
    exact ⟨rfl, HB1.out⟩
  · have h8z : decide ((8 : Int) < (n : Int)) = false := decide_eq_false (by omega)
    by_cases h9 : 8 < m
    · have h9z : (8 : Int) < (m : Int) := by omega
      go_wp2_with fail
      go_ret
      exact ⟨rfl, HB1.out⟩
    · have h9z : decide ((8 : Int) < (m : Int)) = false := decide_eq_false (by omega)
      go_upto_region 6 with fail
      simp only [alloc_eq_grow, grow_grow]
      generalize hw2 : grow w1 _ = w2
      have hk : rkW w1 = w2 := by rw [← hw2]; rfl
      have HT := Lib.hid (show RkIn w2 w1.heap.size from hk ▸ rkIn_new w1)
      have HX := Lib.hid (show BoxAt w2 (w1.heap.size + 1 + 1 + 1 + 1 + 1 + 1 + 1 + 1 + 1 + 1 + 1) (rkT w1.heap.size) from hk ▸ rkB_at w1)
      have HB2 := Lib.hid (HB1.out.trans ((show Below w1.heap.size w1 w2 from hk ▸ grow_below w1 0 _).mono HB1.out.size))
      clear hw2 hk b3 b2 br bt HB1
      generalize w1.heap.size + 1 + 1 + 1 + 1 + 1 + 1 + 1 + 1 + 1 + 1 + 1 = x at HX ⊢
      generalize w1.heap.size = h at HX HT ⊢
      have CW := Lib.hid (fun w (hb : Below W.heap.size W w) => word_any p ls c w (HP.out.below hb) (by rw [HN.out]; omega) HO.out)
      have CM := Lib.hid (fun w (hb : Below W.heap.size W w) => word_any q ms d w (HQ.out.below hb) (by rw [HM.out]; omega) HK.out)
      rw [HN.out] at CW
      rw [HM.out] at CM
      go_wp2_with fail
      refine (CW.out _ HB2.out).mono ?_
      rintro e w3 ⟨s0, s1, s2, s3, rfl, hb3, hw⟩
      have HW := Lib.hid hw
      have HB3 := Lib.hid (hb3)
      clear hb3 hw CW
      go_wp2_with fail
      refine (CM.out _ (HB2.out.trans (HB3.out.mono HB2.out.size))).mono ?_
      rintro e w4 ⟨t0, t1, t2, t3, rfl, hb4, hv⟩
      have HV := Lib.hid hv
      have HB4 := Lib.hid (show Below w2.heap.size w2 w4 from HB3.out.trans (hb4.mono HB3.out.size))
      clear hb4 hv CM HB3
      go_upto_region 7 with fail
      generalize hw5 : (w4.alloc _).alloc _ = w5
      obtain ⟨g, hg⟩ : ∃ g, w4.heap.size = g := ⟨_, rfl⟩
      rw [hg]
      have HA := Lib.hid (show Str4 w5 g s0 s1 s2 s3 from by
        rw [← hw5, ← hg]
        exact (Str4.start _ _ 34 _ _ _ _ (heap_alloc_new w4 _)).alloc _)
      have HC := Lib.hid (show Str4 w5 (g + 1) t0 t1 t2 t3 from by
        rw [← hw5, ← hg]
        exact Str4.start _ _ 34 _ _ _ _ (by simpa using heap_alloc_new (w4.alloc (.cells #[.string s0, .string s1, .string s2, .string s3] 34)) (.cells #[.string t0, .string t1, .string t2, .string t3] 34)))
      have HB5 := Lib.hid (show Below w2.heap.size w2 w5 from hw5 ▸ ((HB4.out.alloc HB4.out.size _).alloc (Nat.le_trans HB4.out.size (by simp)) _))
      clear hw5 hg HB4
      have HBW := Lib.hid (HB2.out.trans (HB5.out.mono HB2.out.size))
      have hz := HW.out.len
      have hy := HV.out.len
      rw [HN.out] at hz
      rw [HM.out] at hy
      have CC := Lib.hid (skcompare_any (rkT h) s0 t0 w5 (HT.out.below HB5.out).tab (by simp [rkT]) (by simp [rkT, rkR]) (Sc.tabs_below HU.out HBW.out) (by omega) (by omega))
      clear hz hy
      obtain ⟨_, a0, a1, a2, a3, _⟩ := HA.out
      obtain ⟨_, e0, e1, e2, e3, _⟩ := HC.out
      obtain ⟨_, x0, x1, x2, x3⟩ := HX.out.below HB5.out
      go_wp2_with fail
      refine CC.out.mono ?_
      rintro e w6 ⟨ka, ea, kb, eb, er, cv, hm1, hm2, he, _, hcv, rfl, hb6⟩
      obtain ⟨rfl, rfl⟩ := rk_made HW.out (by rw [HN.out]; omega) hm1
      obtain ⟨rfl, rfl⟩ := rk_made HV.out (by rw [HM.out]; omega) hm2
      obtain rfl : er = 0 := by rw [he]; rfl
      have hcv2 := hcv rfl
      rw [rk_want] at hcv2
      have HCV := Lib.hid hcv2
      have HB6 := Lib.hid (HBW.out.trans (hb6.mono HBW.out.size))
      have A6 := HA.out.below hb6 HA.out.lt
      have C6 := HC.out.below hb6 HC.out.lt
      clear hcv hcv2 he hm1 hm2 hb6 CC a0 a1 a2 a3 e0 e1 e2 e3 x0 x1 x2 x3 HA HC HBW HB5
      obtain ⟨_, a0, a1, a2, a3, _⟩ := A6
      obtain ⟨_, e0, e1, e2, e3, _⟩ := C6
      have O := Lib.hid (fun (a b : ByteArray) => rk_order a b w6)
      have O1 := Lib.hid (show Lib.compareBytes s1.data.toList t1.data.toList = Lib.compareBytes (ls.flatMap wd1) (ms.flatMap wd1) by rw [HW.out.h1, HV.out.h1])
      have O2 := Lib.hid (show Lib.compareBytes s2.data.toList t2.data.toList = Lib.compareBytes (ls.flatMap wd2) (ms.flatMap wd2) by rw [HW.out.h2, HV.out.h2])
      have O3 := Lib.hid (show Lib.compareBytes s3.data.toList t3.data.toList = Lib.compareBytes (ls.flatMap wd3) (ms.flatMap wd3) by rw [HW.out.h3, HV.out.h3])
      unfold rkWant at HCV
      generalize Lib.compareBytes (ls.flatMap wd1) (ms.flatMap wd1) = z1 at HCV O1
      generalize Lib.compareBytes (ls.flatMap wd2) (ms.flatMap wd2) = z2 at HCV O2
      generalize Lib.compareBytes (ls.flatMap wd3) (ms.flatMap wd3) = z3 at HCV O3
      go_wp2_with fail
      refine (O.out s1 t1).mono ?_
      rintro e w7 ⟨rfl, rfl⟩
      rw [O1.out]
      by_cases hz1 : z1 = 0
      · subst hz1
        have HV1 := Lib.hid (show cv = if z2 = 0 then z3 else z2 by rw [HCV.out, if_pos rfl])
        clear HCV
        go_wp2_with fail
        refine (O.out s2 t2).mono ?_
        rintro e w8 ⟨rfl, rfl⟩
        rw [O2.out]
        have hv1 := HV1.out
        clear HV1
        by_cases hz2 : z2 = 0
        · subst hz2
          rw [if_pos rfl] at hv1
          subst hv1
          go_wp2_with fail
          refine (O.out s3 t3).mono ?_
          rintro e w9 ⟨rfl, rfl⟩
          rw [O3.out]
          go_wp2_with fail
          go_ret
          exact ⟨rfl, HB6.out⟩
        · rw [if_neg hz2] at hv1
          subst hv1
          have hz2b : (cv == 0) = false := by simpa using hz2
          go_wp2_with fail
          go_ret
          exact ⟨rfl, HB6.out⟩
      · have hv1 : cv = z1 := by rw [HCV.out, if_neg hz1]
        subst hv1
        have hz1b : (cv == 0) = false := by simpa using hz1
        clear HCV
        go_wp2_with fail
        go_ret
        exact ⟨rfl, HB6.out⟩
end Go.Proofs.YtjamkefndniljaaDoor
