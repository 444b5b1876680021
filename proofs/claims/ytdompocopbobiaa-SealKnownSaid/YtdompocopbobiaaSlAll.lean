/-
  Layer seal: All.
-/
import Derived.Test.YtdompocopbobiaaSlOpen
import Derived.Test.YtdompocopbobiaaSlRows
namespace Go.Proofs.Ytdompocopbobiaa
open Go.RowKit Go.Gz

theorem AllIs.inv {b : List UInt8} {rs : List (List UInt8)} {n : Nat} (h : AllIs b rs n) : (errL b ≠ 0 ∧ rs = [] ∧ n = 0) ∨ (errL b = 0 ∧ ∃ r' n', rs = (kindL b :: dataL b) :: r' ∧ n = 7 + manyL b + n' ∧ AllIs (b.drop (7 + manyL b)) r' n') := by
  cases h with
  | stop h => exact Or.inl ⟨h, rfl, rfl⟩
  | step h h2 => exact Or.inr ⟨h, _, _, rfl, rfl, h2⟩

theorem one_byte {w : World} {b : Nat} {x : UInt8} (h : w.cell? ⟨b, 0, none⟩ = some (.int .u8 x.toNat)) (hb : b < w.heap.size) : Row w .u8 (some ⟨b, 0, none⟩) (nums [x]) := by
  refine Or.inr ⟨b, 0, rfl, hb, fun j hj => ?_⟩
  have hj0 : j = 0 := by simpa [nums] using hj
  subst hj0
  exact h

def RetAll (w : World) (rs : List (List UInt8)) (U : Nat) (e : Ending) (w' : World) : Prop :=
  ∃ v vs, e = .returned (.tuple #[v, .int .i64 U]) ∧ OwnL w' w.heap.size v vs ∧ Items w' w.heap.size vs rs ∧ Below w.heap.size w w'

structure AllR (w : World) (l : List UInt8) (rs : List (List UInt8)) (U : Nat) (va vu : Value) (wr : World) (u : Nat) (vs : List Value) (pre suf : List (List UInt8)) : Prop where
  ev : vu = .int .i64 u
  sp : pre ++ suf = rs
  ai : AllIs (l.drop u) suf (U - u)
  le : u ≤ U
  ul : U ≤ l.length
  own : OwnL wr w.heap.size va vs
  it : Items wr w.heap.size vs pre
  bl : Below w.heap.size w wr
  ct : pre.length ≤ u

set_option maxHeartbeats 4000000 in
set_option maxRecDepth 1000000 in
theorem all_none (w : World) : Calls Try.prog 13 #[.slice none 0 0] w (RetAll w [] 0) := by
  have C1 := Lib.hid (fun w => first_any [] (by simp) none 0 w (Or.inl rfl) (Nat.le_refl _))
  have HF := Lib.hid (show ∀ w', Below w.heap.size w w' → RetAll w [] 0 (.returned (.tuple #[.slice none 0 0, .int .i64 0])) w' from fun w' hb => ⟨_, _, rfl, OwnL.nil _ _, Items.nil _ _, hb⟩)
  go_enter Try.func13, Try.ntmps13
  go_wp2_with fail
  refine wp_loop_rounds 1 ?_
  rw [rounds_succ]
  go_wp2_with fail
  refine (C1.out w).mono ?_
  rintro e w1 ⟨hb1, ⟨he, rfl⟩ | ⟨he, _⟩⟩
  · have hE : errL [] = 7 := by decide
    rw [hE]
    have HB1 := Lib.hid (hb1.alloc hb1.size (.cells #[.int .u8 0, .slice none 0 0] 52))
    clear hb1 he hE
    go_wp2_with fail
    go_ret2
    exact HF.out _ HB1.out
  · exact absurd he (by decide)

set_option maxHeartbeats 8000000 in
set_option maxRecDepth 1000000 in
theorem all_any (l : List UInt8) (hl : l.length ≤ 1000000) (rs : List (List UInt8)) (U : Nat) (ha : AllIs l rs U) (b o cap : Nat) (w : World) (hp : Row w .u8 (some ⟨b, o, none⟩) (nums l)) (hcap : l.length ≤ cap) :
    Calls Try.prog 13 #[.slice (some ⟨b, o, none⟩) l.length cap] w (RetAll w rs U) := by
  have HF := Lib.hid (show ∀ v vs w', OwnL w' w.heap.size v vs → Items w' w.heap.size vs rs → Below w.heap.size w w' → RetAll w rs U (.returned (.tuple #[v, .int .i64 U])) w' from fun v vs w' h1 h2 hb => ⟨_, _, rfl, h1, h2, hb⟩)
  have hUl := all_le ha
  obtain ⟨n, hn⟩ : ∃ n, l.length = n := ⟨_, rfl⟩
  have C1 := Lib.hid (show ∀ u w1, u ≤ n → Below w.heap.size w w1 → Calls Try.prog 19 #[.slice (some ⟨b, o + u, none⟩) (n - u) (cap - u)] w1 (RetFi w1 (l.drop u)) from fun u w1 hu hb => by
    have := first_any (l.drop u) (by rw [List.length_drop]; omega) (some ⟨b, o + u, none⟩) (cap - u) w1 (row_drop (hp.below hb) u) (by rw [List.length_drop]; omega)
    rw [List.length_drop, hn] at this
    exact this)
  have C2 := Lib.hid (show ∀ w1, Calls Try.prog 19 #[.slice (some ⟨b, o, none⟩) 0 0] w1 (RetFi w1 []) from fun w1 =>
    first_any [] (by simp) (some ⟨b, o, none⟩) 0 w1 (Or.inl rfl) (Nat.le_refl _))
  have hcz : (n : Int) ≤ (cap : Int) := by omega
  have HN := Lib.hid hn
  have HA := Lib.hid ha
  have HU := Lib.hid hUl
  rw [hn]
  have hnz : (n : Int) ≤ 1000000 := by omega
  clear hp hcap hn ha hl hUl
  go_enter Try.func13, Try.ntmps13
  go_wp2_with fail
  go_loopg [4, 5] U (fun gg va vu wr => ∃ u vs pre suf, Hid (AllR w l rs U va vu wr u vs pre suf) ∧ U - u ≤ gg)
  case atStart => exact ⟨0, [], [], rs, Lib.hid ⟨rfl, rfl, by rw [List.drop_zero, Nat.sub_zero]; exact HA.out, Nat.zero_le _, HU.out, OwnL.nil _ _, Items.nil _ _, Below.refl _ _, by simp⟩, by omega⟩
  case round =>
    obtain ⟨u, vs, pre, suf, HR, hgg⟩ := hrel
    have hev := HR.out.ev
    subst hev
    have hle := HR.out.le
    have hul := HR.out.ul
    rw [HN.out] at hul
    have hun : (u : Int) ≤ (n : Int) := by omega
    by_cases hcu : cap = u
    · have hd : l.drop u = [] := List.drop_eq_nil_of_le (by rw [HN.out]; omega)
      have hai := HR.out.ai
      rw [hd] at hai
      obtain ⟨_, hs, hu⟩ | ⟨h, _⟩ := hai.inv
      · subst hs
        obtain rfl : u = U := by omega
        obtain rfl : u = n := by omega
        have hpr := HR.out.sp
        rw [List.append_nil] at hpr
        subst hpr
        have HR2 := Lib.hid (And.intro HR.out.own (And.intro HR.out.it HR.out.bl))
        clear hai hd HR HA hgg hle hul
        go_wp2_with fail
        refine (C2.out wr).mono ?_
        rintro e w1 ⟨hb1, ⟨he, rfl⟩ | ⟨he, _⟩⟩
        · have hE : errL [] = 7 := by decide
          rw [hE]
          have HF2 := Lib.hid (HF.out _ _ _ ((HR2.out.1.below hb1).alloc (.cells #[.int .u8 0, .slice none 0 0] 52)) ((HR2.out.2.1.below hb1).below ((Below.refl _ _).alloc (Nat.le_refl _) _)) ((HR2.out.2.2.trans (hb1.mono HR2.out.2.2.size)).alloc (by have := HR2.out.2.2.size; have := hb1.size; omega) _))
          clear hb1 he hE
          go_wp2_with fail
          go_ret2
          exact HF2.out
        · exact absurd he (by decide)
      · exact absurd h (by decide)
    · have hcuz : ¬ (cap : Int) = (u : Int) := by omega
      go_wp2_with fail
      refine (C1.out u wr (by omega) HR.out.bl).mono ?_
      rintro e w1 ⟨hb1, ⟨he, rfl⟩ | ⟨he, q, d, rfl, hrow, hmd, hqd⟩⟩
      · obtain ⟨_, hs, hu⟩ | ⟨h, _⟩ := HR.out.ai.inv
        · subst hs
          obtain rfl : u = U := by omega
          have hpr := HR.out.sp
          rw [List.append_nil] at hpr
          subst hpr
          have HR2 := Lib.hid (And.intro HR.out.own (And.intro HR.out.it HR.out.bl))
          obtain ⟨E, hE⟩ : ∃ E, errL (l.drop u) = E := ⟨_, rfl⟩
          rw [hE] at he ⊢
          have hez : ((E : Int) != 0) = true := by simp; omega
          have HF2 := Lib.hid (HF.out _ _ _ ((HR2.out.1.below hb1).alloc (.cells #[.int .u8 0, .slice none 0 0] 52)) ((HR2.out.2.1.below hb1).below ((Below.refl _ _).alloc (Nat.le_refl _) _)) ((HR2.out.2.2.trans (hb1.mono HR2.out.2.2.size)).alloc (by have := HR2.out.2.2.size; have := hb1.size; omega) _))
          clear hE he hb1 HR HA hgg hle hul
          go_wp2_with fail
          go_ret2
          exact HF2.out
        · exact absurd h he
      · obtain ⟨h, _⟩ | ⟨_, r', n', hs, hu, hai⟩ := HR.out.ai.inv
        · exact absurd he h
        · subst hs
          have hroom := errL_room he
          have hdl := dataL_len he
          obtain ⟨m, hm⟩ : ∃ m, manyL (l.drop u) = m := ⟨_, rfl⟩
          obtain ⟨K, hK⟩ : ∃ K, kindL (l.drop u) = K := ⟨_, rfl⟩
          obtain ⟨D, hD⟩ : ∃ D, dataL (l.drop u) = D := ⟨_, rfl⟩
          have hsp := HR.out.sp
          have hct := HR.out.ct
          rw [hm] at hroom hdl hu hai hmd ⊢
          rw [hD] at hdl hrow hsp
          rw [hK] at hsp ⊢
          rw [List.length_drop, HN.out] at hroom
          have HO1 := Lib.hid (HR.out.own.below hb1)
          have HI1 := Lib.hid (HR.out.it.below hb1)
          have HB1 := Lib.hid (HR.out.bl.trans (hb1.mono HR.out.bl.size))
          have HS := Lib.hid (show (pre ++ [K :: D]) ++ r' = rs by rw [← hsp]; simp)
          have HAI := Lib.hid (show AllIs (l.drop (u + (7 + m))) r' (U - (u + (7 + m))) by
            rw [List.drop_drop] at hai
            rw [show U - (u + (7 + m)) = n' by omega]; exact hai)
          have HDL := Lib.hid hdl
          have HQ := Lib.hid (And.intro hroom (And.intro hmd hqd))
          have HVL := Lib.hid (show vs.length ≤ u by rw [HR.out.it.1]; exact hct)
          have HCT := Lib.hid hct
          clear hai hsp hdl hK hD hm he hmd hqd hct HA HR
          obtain ⟨z1, hz1⟩ : ∃ z1, w1.heap.size = z1 := ⟨_, rfl⟩
          obtain ⟨wf, hwf⟩ : ∃ wf, ((w1.alloc (.cells #[.int .u8 K.toNat, .slice q m d] 52)).alloc (.cells #[.int .u8 K.toNat] 5)).alloc (.cells #[.slice (some ⟨z1 + 1, 0, none⟩) 1 1, .slice q m d] 22) = wf := ⟨_, rfl⟩
          have hbf : Below w1.heap.size w1 wf := hwf ▸ (((Below.refl _ _).alloc (Nat.le_refl _) _).alloc (by simp) _).alloc (by simp; omega) _
          have hzf : wf.heap.size = z1 + 3 := by rw [← hwf, ← hz1]; simp
          have f0 : wf.cell? ⟨z1, 0, none⟩ = some (.int .u8 K.toNat) := by rw [← hwf, ← hz1]; simp [go_sem]
          have f1 : wf.cell? ⟨z1, 1, none⟩ = some (.slice q m d) := by rw [← hwf, ← hz1]; simp [go_sem]
          have g0 : wf.cell? ⟨z1 + 1, 0, none⟩ = some (.int .u8 K.toNat) := by rw [← hwf, ← hz1]; simp [go_sem]
          have x0 : wf.cell? ⟨z1 + 2, 0, none⟩ = some (.slice (some ⟨z1 + 1, 0, none⟩) 1 1) := by rw [← hwf, ← hz1]; simp [go_sem]
          have x1 : wf.cell? ⟨z1 + 2, 1, none⟩ = some (.slice q m d) := by rw [← hwf, ← hz1]; simp [go_sem]
          have CC := Lib.hid (show Calls Try.prog 22 #[.slice (some ⟨z1 + 2, 0, none⟩) 2 2] wf (RetOwn wf ([K] ++ D)) from
            concat_any [K] D (by simp) (by simp) (by rw [HDL.out]; have := HQ.out.1.2; omega) (some ⟨z1 + 1, 0, none⟩) q 1 d (z1 + 2) 2 wf
              (one_byte g0 (by omega))
              (hrow.below hbf) (fun h => by cases h) HQ.out.2.2 x0 (by rw [HDL.out]; exact x1))
          rw [hz1] at hbf
          have HBF := Lib.hid hbf
          have HF01 := Lib.hid (And.intro hzf (And.intro f0 f1))
          have HZ1 := Lib.hid hz1
          clear hrow hb1 hbf hzf f0 f1 g0 x0 x1
          go_wp2_with fail
          refine CC.out.mono ?_
          rintro e wc ⟨vc, rfl, hoc, hbc⟩
          obtain ⟨qc, dc, rfl, -⟩ := own_row hoc
          rw [nums_length] at hoc ⊢
          have hlc : ([K] ++ D).length = m + 1 := by simp [HDL.out]
          rw [hlc] at hoc ⊢
          have hzc : z1 + 3 ≤ wc.heap.size := by have := hbc.size; have := HF01.out.1; omega
          have HO2 := Lib.hid ((HO1.out.below (HZ1.out ▸ HBF.out)).below hbc)
          have HI2 := Lib.hid ((HI1.out.below (HZ1.out ▸ HBF.out)).below hbc)
          have HB2 := Lib.hid ((HB1.out.trans (HBF.out.mono (by have := HB1.out.size; have := HZ1.out; omega))).trans (hbc.mono (by have := HB1.out.size; have := HZ1.out; have := HF01.out.1; omega)))
          have hwz : w.heap.size ≤ z1 := by have := HB1.out.size; have := HZ1.out; omega
          have HOC := Lib.hid (own_mono hoc (show w.heap.size ≤ wf.heap.size by have := HF01.out.1; omega))
          have HFC := Lib.hid (show wc.cell? ⟨z1, 0, none⟩ = some (.int .u8 K.toNat) ∧ wc.cell? ⟨z1, 1, none⟩ = some (.slice q m d) from ⟨by rw [hbc.cell (p := ⟨z1, 0, none⟩) (by have := HF01.out.1; show z1 < _; omega)]; exact HF01.out.2.1, by rw [hbc.cell (p := ⟨z1, 1, none⟩) (by have := HF01.out.1; show z1 < _; omega)]; exact HF01.out.2.2⟩)
          have HWZ := Lib.hid (And.intro hwz hzc)
          have HVB := Lib.hid (fun g hg => show g < z1 by have := (World.ownsRow.lt HO1.out g hg).2; have := HZ1.out; omega)
          clear hoc hbc hlc hwf CC HO1 HI1 hwz hzc hz1
          go_wp2_with (at_builtin; refine wpList_push_row rfl _ _ rfl w.heap.size _ _ rfl (HO2.out.alloc _) wc.heap.size 1 qc (m + 1) dc rfl ?cell0 (by have := HVL.out; omega) (by have := HWZ.out; simp; omega) ?_)
          case cell0 => rw [World.cell?_alloc_new]; rfl
          intro v3 w3 hown3 hgrow
          have hal : Below wc.heap.size wc (wc.alloc (.cells #[.slice qc (m + 1) dc] 22)) := (Below.refl _ _).alloc (Nat.le_refl _) _
          have HO3 := Lib.hid hown3
          have HI3 := Lib.hid (((HI2.out.below hal).snoc (below_own HOC.out hal)).grown (HO2.out.alloc _) hgrow)
          have HB3 := Lib.hid ((HB2.out.alloc (by have := HWZ.out; omega) (.cells #[.slice qc (m + 1) dc] 22)).grown hgrow (by have := HWZ.out; simp; omega) (fun g hg => HO2.out.lt g hg))
          have hb3 : w3.heap[z1]? = wc.heap[z1]? := by
            rw [hgrow.block z1 (by have := HWZ.out; simp; omega) (fun e => by have := HVB.out z1 e.symm; omega)]
            exact Below.heap_alloc _ _ _ (by have := HWZ.out; omega)
          have k0 : w3.cell? ⟨z1, 0, none⟩ = some (.int .u8 K.toNat) := by rw [World.cell?_of_block (w := wc) hb3]; exact HFC.out.1
          have k1 : w3.cell? ⟨z1, 1, none⟩ = some (.slice q m d) := by rw [World.cell?_of_block (w := wc) hb3]; exact HFC.out.2
          have CZ := Lib.hid (size_any K.toNat q m d (by have := HQ.out.1.2; omega) w3)
          clear hown3 hgrow hal hb3 HO2 HI2 HB2
          go_wp2_with fail
          refine CZ.out.mono ?_
          rintro e w4 ⟨rfl, hb4⟩
          have HR4 := Lib.hid (show AllR w l rs U v3 (.int .i64 ((u + (7 + m) : Nat) : Int)) w4 (u + (7 + m)) (vs ++ [.slice qc (m + 1) dc]) (pre ++ [K :: D]) r' from
            ⟨rfl, HS.out, HAI.out, by omega, HN.out ▸ by omega, HO3.out.below hb4, HI3.out.below hb4, HB3.out.trans (hb4.mono HB3.out.size), by have := HCT.out; simp; omega⟩)
          have hb : (m : Int) ≤ 32768 := by have := HQ.out.1.2; omega
          have hum : u + (7 + m) ≤ U := by omega
          clear hb4 k0 k1 hul hu hroom
          go_wp2_with fail
          go_roundg (U - (u + (7 + m)))
          case measure => omega
          case rel => exact ⟨u + (7 + m), _, _, _, HR4, Nat.le_refl _⟩
theorem all_own (l : List UInt8) (hl : l.length ≤ 1000000) (rs : List (List UInt8)) (U : Nat) (ha : AllIs l rs U) (B : Nat) (v : Value) (w : World) (h : Own w B 5 .u8 v (nums l)) : Calls Try.prog 13 #[v] w (RetAll w rs U) := by
  obtain ⟨q, d, he, hd, hq, hrow⟩ := own_row h
  obtain ⟨h1, ⟨rfl, h0⟩ | ⟨g, cap, cur, rfl, _⟩⟩ := h
  · rw [nums_length] at h0
    obtain rfl : l = [] := List.eq_nil_of_length_eq_zero h0
    obtain ⟨_, rfl, rfl⟩ | ⟨h, _⟩ := ha.inv
    · exact all_none w
    · exact absurd h (by decide)
  · injection he with h1 h2 h3
    subst h1 h3
    rw [nums_length] at hd ⊢
    exact all_any l hl rs U ha g 0 cap w hrow hd
theorem all_pre (l : List UInt8) (hl : l.length ≤ 1000000) (B : Nat) (q : Option Addr) (N K d : Nat) (w : World) (h : Own w B 5 .u8 (.slice q N d) (nums l)) (hK : K ≤ N) (rs : List (List UInt8)) (U : Nat) (ha : AllIs (l.take K) rs U) :
    Calls Try.prog 13 #[.slice q K d] w (RetAll w rs U) := by
  obtain ⟨q', d', he, hd, hq, hrow⟩ := own_row h
  injection he with h1 h2 h3
  subst h1 h3
  rw [nums_length] at h2 hd
  obtain ⟨_, ⟨h4, h0⟩ | ⟨g, cap, cur, h4, _⟩⟩ := h
  · rw [nums_length] at h0
    injection h4 with h5 h6 h7
    subst h5 h7
    obtain rfl : K = 0 := by omega
    rw [List.take_zero] at ha
    obtain ⟨_, rfl, rfl⟩ | ⟨h, _⟩ := ha.inv
    · exact all_none w
    · exact absurd h (by decide)
  · injection h4 with h5 _ _
    subst h5
    have hl2 : (l.take K).length = K := by rw [List.length_take]; omega
    have := all_any (l.take K) (by omega) rs U ha g 0 d w (row_take hrow K) (by omega)
    rwa [hl2] at this
end Go.Proofs.Ytdompocopbobiaa
