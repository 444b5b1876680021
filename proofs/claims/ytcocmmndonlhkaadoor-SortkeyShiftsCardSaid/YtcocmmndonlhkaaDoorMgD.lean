/-
  Several texts in one: SkRead, SkMake, SkCmp.
-/
import Derived.Test.YtcocmmndonlhkaaDoorMgB
import Derived.Test.YtcocmmndonlhkaaDoorWeElem
import Derived.Test.YtcocmmndonlhkaaDoorSkLevs
import Derived.Test.YtcocmmndonlhkaaDoorSkJoin
import Derived.Test.YtcocmmndonlhkaaDoorSkBound
namespace Go.Proofs.YtcocmmndonlhkaaDoor
open Go.RowKit Go.Gz

theorem v_may {r : Int} (h : V r) : mayNotB r = false := by
  have h1 := (validRune_iff r).2 h
  first
    | (unfold mayNotB; rw [h1]; rfl)
    | (simp [mayNotB, h1])

set_option maxHeartbeats 1000000 in
theorem or_any (e f : Int) (p : Option Addr) (c : Nat) (w : World) (hp : Row w .i64 p [e, f]) :
    Calls Tryd.prog 15 #[.slice p 2 c] w fun en w' => en = .returned (.int .i64 (if e = 0 then f else e)) ∧ w = w' := by
  have HP := Lib.hid hp; clear hp
  obtain ⟨rv, hrv⟩ : ∃ rv, (if e = 0 then f else e) = rv := ⟨_, rfl⟩
  rw [hrv]
  have HRV := Lib.hid hrv; clear hrv
  go_enter Tryd.func15, Tryd.ntmps15
  go_wp2_with fail
  go_loopg [8] 2 (fun g vi wr => ∃ k : Nat, vi = .int .i64 (k : Int) ∧ k ≤ 2 ∧ 2 - k ≤ g ∧ w = wr ∧ Hid (0 < k → e = 0) ∧ Hid (1 < k → f = 0))
  case atStart => exact ⟨0, rfl, by omega, by omega, rfl, Lib.hid (fun h => by omega), Lib.hid (fun h => by omega)⟩
  case round =>
    obtain ⟨k, rfl, hk, hg, hw, H1, H2⟩ := hrel
    obtain rfl := hw
    by_cases hlt : k < 2
    · have hltz : (k : Int) < 2 := by omega
      obtain ⟨b, o, rfl, _, hcell⟩ := row_cell HP.out (Below.refl _ _) (show k < [e, f].length by simpa using hlt)
      obtain ⟨x, hx⟩ : ∃ x, [e, f].getD k 0 = x := ⟨_, rfl⟩
      rw [hx] at hcell
      have HX := Lib.hid hx
      clear hx
      by_cases h0 : x = 0
      · have h0b : ((x : Int) != 0) = false := by simp [h0]
        have HN1 := Lib.hid (show 0 < k + 1 → e = 0 from fun _ => by
          by_cases hk0 : k = 0
          · have := HX.out; subst hk0; simpa [h0] using this
          · exact H1.out (by omega))
        have HN2 := Lib.hid (show 1 < k + 1 → f = 0 from fun h => by
          have hk1 : k = 1 := by omega
          have := HX.out; subst hk1; simpa [h0] using this)
        clear h0
        go_wp2_with fail
        go_roundg (2 - (k + 1))
        case measure => omega
        case rel => exact ⟨k + 1, by go_num, by omega, by omega, rfl, HN1, HN2⟩
      · have h0b : ((x : Int) != 0) = true := by simp [h0]
        have HV := Lib.hid (show rv = x by
          rw [← HRV.out]
          by_cases hk0 : k = 0
          · have := HX.out; subst hk0
            have : e = x := by simpa using this
            rw [this, if_neg h0]
          · have hk1 : k = 1 := by omega
            have h1 := H1.out (by omega)
            have := HX.out; subst hk1
            rw [if_pos h1]; simpa using this)
        clear h0
        go_wp2_with fail
        go_ret
        exact ⟨by rw [HV.out]; rfl, rfl⟩
    · obtain rfl : k = 2 := by omega
      have hltz : ¬ (2 : Int) < 2 := by omega
      have HV := Lib.hid (show rv = 0 by rw [← HRV.out, if_pos (H1.out (by omega))]; exact H2.out (by omega))
      go_wp2_with fail
      go_ret
      exact ⟨by rw [HV.out]; rfl, rfl⟩

/-- the answer of read. -/
def RetRead (s : ByteArray) (W : World) (e : Ending) (w' : World) : Prop :=
  Below W.heap.size W w' ∧ ((64 < s.size ∧ e = .returned (.tuple #[.slice none 0 0, .int .i64 3])) ∨ (s.size ≤ 64 ∧ ¬ Txt s.data.toList ∧ e = .returned (.tuple #[.slice none 0 0, .int .i64 2])) ∨
    (s.size ≤ 64 ∧ ∃ rs, (∀ r ∈ rs, V r) ∧ s.data.toList = encAll rs ∧ ∃ p c, e = .returned (.tuple #[.slice p rs.length c, .int .i64 0]) ∧ Row w' .i32 p rs))
set_option maxHeartbeats 1000000 in
theorem skread_any (s : ByteArray) (W : World) (hT : Lib.Utf8Tabs 1 2 W) (hs : s.size ≤ 9223372036854775807) :
    Calls Tryd.prog 13 #[.string s] W (RetRead s W) := by
  by_cases h64 : 64 < s.size
  · have h64z : (64 : Int) < (s.size : Int) := by omega
    clear hT
    go_enter Tryd.func13, Tryd.ntmps13
    go_wp2_with fail
    go_ret2
    exact ⟨Below.refl _ _, Or.inl ⟨h64, rfl⟩⟩
  · have h64z : (s.size : Int) ≤ 64 := by omega
    have hle : s.size ≤ 64 := by omega
    by_cases ht : Txt s.data.toList
    · obtain ⟨rs, hv, he⟩ := ht
      have C := Lib.hid (Sc.read_ok rs hv s he W hT (by omega))
      have HV := Lib.hid hv
      have HE := Lib.hid he
      clear hT h64 hv he hs
      go_enter Tryd.func13, Tryd.ntmps13
      go_wp2_with fail
      refine C.out.mono ?_
      rintro e w1 ⟨p, c, rfl, _, hb, hr⟩
      have HB := Lib.hid hb
      have HR := Lib.hid hr
      clear hb hr C
      go_wp2_with fail
      go_ret2
      exact ⟨HB.out, Or.inr (Or.inr ⟨hle, rs, HV.out, HE.out, p, c, rfl, HR.out⟩)⟩
    · have C := Lib.hid (Sc.read_bad s ht W hT (by omega))
      have HN := Lib.hid ht
      clear hT h64 ht hs
      go_enter Tryd.func13, Tryd.ntmps13
      go_wp2_with fail
      refine C.out.mono ?_
      rintro e w1 ⟨rfl, hb⟩
      have HB := Lib.hid hb
      clear hb C
      go_wp2_with fail
      go_ret2
      exact ⟨HB.out, Or.inr (Or.inl ⟨hle, HN.out, rfl⟩)⟩
end Go.Proofs.YtcocmmndonlhkaaDoor
namespace Go.Proofs.YtcocmmndonlhkaaDoor
open Go.RowKit Go.Gz Go.Sort

/-- a text's runes, or why there are none. -/
def RdIs (s : ByteArray) (rs : List Int) (wr : Int) : Prop :=
  (64 < s.size ∧ rs = [] ∧ wr = 3) ∨ (s.size ≤ 64 ∧ ¬ Txt s.data.toList ∧ rs = [] ∧ wr = 2) ∨ (s.size ≤ 64 ∧ (∀ r ∈ rs, V r) ∧ s.data.toList = encAll rs ∧ wr = 0)
def keyOf (T : TB) (rs : List Int) : List UInt8 := keyB (levL T.sh T.top (outE T rs))
/-- the key of a text, and the error. -/
def MakeIs (T : TB) (s : ByteArray) (k : List UInt8) (er : Int) : Prop :=
  ∃ rs wr, RdIs s rs wr ∧ (((if errE T rs = 0 then wr else errE T rs) ≠ 0 ∧ er = (if errE T rs = 0 then wr else errE T rs) ∧ k = []) ∨
    ((if errE T rs = 0 then wr else errE T rs) = 0 ∧ ((640 < (keyOf T rs).length ∧ er = 3 ∧ k = []) ∨ ((keyOf T rs).length ≤ 640 ∧ er = 0 ∧ k = keyOf T rs))))
def RetMake (T : TB) (s : ByteArray) (W : World) (e : Ending) (w' : World) : Prop :=
  ∃ k er, e = .returned (.tuple #[.string ⟨k.toArray⟩, .int .i64 er]) ∧ Below W.heap.size W w' ∧ MakeIs T s k er
theorem rd_any (s : ByteArray) (W : World) (hT : Lib.Utf8Tabs 1 2 W) (hs : s.size ≤ 9223372036854775807) :
    Calls Tryd.prog 13 #[.string s] W fun e w' => ∃ rs wr p c, e = .returned (.tuple #[.slice p rs.length c, .int .i64 wr]) ∧ Below W.heap.size W w' ∧ Row w' .i32 p rs ∧ rs.length ≤ 64 ∧ RdIs s rs wr := by
  refine (skread_any s W hT hs).mono fun e w' h => ?_
  obtain ⟨hb, ⟨h1, rfl⟩ | ⟨h1, h2, rfl⟩ | ⟨h1, rs, h2, h3, p, c, rfl, hr⟩⟩ := h
  · exact ⟨[], 3, none, 0, rfl, hb, Or.inl rfl, by simp, Or.inl ⟨h1, rfl, rfl⟩⟩
  · exact ⟨[], 2, none, 0, rfl, hb, Or.inl rfl, by simp, Or.inr (Or.inl ⟨h1, h2, rfl, rfl⟩)⟩
  · refine ⟨rs, 0, p, c, rfl, hb, hr, ?_, Or.inr (Or.inr ⟨h1, h2, h3, rfl⟩)⟩
    have h4 := Sc.rs_le rs
    rw [← h3] at h4
    simp at h4
    omega

set_option maxHeartbeats 4000000 in
set_option maxRecDepth 100000 in
theorem make_any (T : TB) (s : ByteArray) (W : World) (hT : TabIn W T) (hl1 : T.ls.length ≤ 100) (hl2 : T.rs.length ≤ 100) (hU : Lib.Utf8Tabs 1 2 W) (hs : s.size ≤ 9223372036854775807) :
    Calls Tryd.prog 8 #[.agg #[.slice T.lp T.ls.length T.lc, .slice T.rp T.rs.length T.rc, .int .i64 T.top, .bool T.sh], .string s] W (RetMake T s W) := by
  have HT := Lib.hid hT; clear hT
  have HU := Lib.hid hU; clear hU
  have HL := Lib.hid (And.intro hl1 hl2); clear hl1 hl2
  go_enter Tryd.func8, Tryd.ntmps8
  go_wp2_with fail
  obtain ⟨w0, hw0⟩ : ∃ w0, W.alloc (.cells #[.slice T.lp T.ls.length T.lc, .slice T.rp T.rs.length T.rc, .int .i64 T.top, .bool T.sh] 33) = w0 := ⟨_, rfl⟩
  rw [hw0]
  have HB0 := Lib.hid (show Below W.heap.size W w0 from hw0 ▸ (Below.refl _ _).alloc (Nat.le_refl _) _)
  have HX0 := Lib.hid (show BoxAt w0 W.heap.size T from hw0 ▸ BoxAt.new W T _)
  clear hw0
  have CR := Lib.hid (rd_any s w0 (Sc.tabs_below HU.out HB0.out) hs)
  clear hs
  refine CR.out.mono ?_
  rintro e w1 ⟨rs, wr0, p1, c1, rfl, hb1, hr1, hrl, hrd⟩
  have HX1 := Lib.hid (HX0.out.below hb1)
  have HB1 := Lib.hid (HB0.out.trans (hb1.mono HB0.out.size))
  have HRD := Lib.hid hrd
  have CE := Lib.hid (elements_both T rs p1 c1 w1 (HT.out.at_ HB1.out HL.out.1 HL.out.2) hr1 (by omega))
  unfold RetBoth at CE
  have HRL := Lib.hid hrl
  clear hb1 hr1 hrl hrd CR
  obtain ⟨_, t0, t1, t2, t3⟩ := HX1.out
  obtain ⟨xs, hxs⟩ : ∃ xs, outE T rs = xs := ⟨_, rfl⟩
  obtain ⟨er, her⟩ : ∃ er, errE T rs = er := ⟨_, rfl⟩
  rw [hxs, her] at CE
  have hxl : xs.length ≤ 2400 := by rw [← hxs]; exact outE_few (by have := HRL.out; omega)
  have HOK := Lib.hid (show ∀ x ∈ xs, ElOk x from hxs ▸ outE_ok T rs)
  have HXS := Lib.hid hxs
  have HER := Lib.hid her
  clear hxs her
  go_wp2_with fail
  refine CE.out.mono ?_
  rintro e w2 ⟨p2, c2, rfl, hb2, he2⟩
  have HX2 := Lib.hid (HX1.out.below hb2)
  have HB2 := Lib.hid (HB1.out.trans (hb2.mono HB1.out.size))
  have HE2 := Lib.hid he2
  clear hb2 he2 CE t0 t1 t2 t3
  have hlit := Lib.hid (row_lit w2 .i64 34 [er, wr0])
  have CO := Lib.hid (or_any er wr0 _ 2 _ hlit.out)
  obtain ⟨e0, he0⟩ : ∃ e0, (if er = 0 then wr0 else er) = e0 := ⟨_, rfl⟩
  rw [he0] at CO
  have HE0 := Lib.hid he0
  clear he0
  go_wp2_with fail
  refine CO.out.mono ?_
  rintro e w3 ⟨rfl, hw3⟩
  have HB23 := Lib.hid (show Below w2.heap.size w2 w3 from hw3 ▸ (Below.refl _ _).alloc (Nat.le_refl _) _)
  have HB3 := Lib.hid (HB2.out.trans (HB23.out.mono HB2.out.size))
  have HX3 := Lib.hid (HX2.out.below HB23.out)
  have HE3 := Lib.hid (HE2.out.below HB23.out)
  clear hw3 hlit CO
  by_cases hz : e0 = 0
  · have hzb : ((e0 : Int) != 0) = false := by simp [hz]
    have HZ := Lib.hid hz
    clear hz
    have CL := Lib.hid (levels_any T xs p2 c2 w3 HE3.out (by omega))
    obtain ⟨_, t0, t1, t2, t3⟩ := HX3.out
    go_wp2_with fail
    refine CL.out.mono ?_
    rintro e w4 ⟨vs, rfl, hb4, hown4⟩
    have HB4 := Lib.hid (HB3.out.trans (hb4.mono HB3.out.size))
    have HB34 := Lib.hid hb4
    obtain ⟨L, hLL⟩ : ∃ L, levL T.sh T.top xs = L := ⟨_, rfl⟩
    have hL4 : L.length = 4 := by rw [← hLL]; exact levSt_len _ _ _
    have hLn : ∀ z ∈ L, z.length ≤ 2400 := fun z hz => by
      have := levL_few T.sh T.top xs z (hLL ▸ hz)
      omega
    have hLw : ∀ z ∈ L, ∀ w ∈ z, 0 ≤ w ∧ w ≤ 65535 := fun z hz w hw => by
      have := levL_ok (sh := T.sh) (top := T.top) HOK.out z (hLL ▸ hz) w hw
      omega
    rw [hLL] at hown4
    have HLL := Lib.hid hLL
    clear hLL hb4 CL t0 t1 t2 t3
    have HOW := Lib.hid hown4
    obtain ⟨s0, d0, hv0, _, r0⟩ := Own.row (hown4 0 (by omega))
    obtain ⟨s1, d1, hv1, _, r1⟩ := Own.row (hown4 1 (by omega))
    obtain ⟨s2, d2, hv2, _, r2⟩ := Own.row (hown4 2 (by omega))
    obtain ⟨s3, d3, hv3, _, r3⟩ := Own.row (hown4 3 (by omega))
    rw [hv0, hv1, hv2, hv3]
    have HLV := Lib.hid (show LvsAt (w4.alloc (.cells #[.slice s0 (L.getD 0 []).length d0, .slice s1 (L.getD 1 []).length d1, .slice s2 (L.getD 2 []).length d2, .slice s3 (L.getD 3 []).length d3] 47)) (w4.heap.size + 1) (some ⟨w4.heap.size, 0, none⟩) L from by
      have hb : Below w4.heap.size w4 (w4.alloc (.cells #[.slice s0 (L.getD 0 []).length d0, .slice s1 (L.getD 1 []).length d1, .slice s2 (L.getD 2 []).length d2, .slice s3 (L.getD 3 []).length d3] 47)) := (Below.refl _ _).alloc (Nat.le_refl _) _
      have hq : ∀ {q : Option Addr} {ys : List Int} {v : Value} {n d : Nat}, v = .slice q n d → Own w4 w3.heap.size 3 .i64 v ys → ∀ b' o', q = some ⟨b', o', none⟩ → b' < w4.heap.size + 1 := fun hv ho b' o' hq => by
        have := (World.ownsRow.lt ho b' (by rw [hv, hq]; rfl)).2
        omega
      intro j hj
      rw [hL4] at hj
      rcases (show j = 0 ∨ j = 1 ∨ j = 2 ∨ j = 3 by omega) with rfl | rfl | rfl | rfl
      · exact ⟨_, 0, s0, d0, rfl, Nat.lt_succ_self _, by rw [World.cell?_alloc_new]; rfl, r0.below hb, hq hv0 (hown4 0 (by omega))⟩
      · exact ⟨_, 0, s1, d1, rfl, Nat.lt_succ_self _, by rw [World.cell?_alloc_new]; rfl, r1.below hb, hq hv1 (hown4 1 (by omega))⟩
      · exact ⟨_, 0, s2, d2, rfl, Nat.lt_succ_self _, by rw [World.cell?_alloc_new]; rfl, r2.below hb, hq hv2 (hown4 2 (by omega))⟩
      · exact ⟨_, 0, s3, d3, rfl, Nat.lt_succ_self _, by rw [World.cell?_alloc_new]; rfl, r3.below hb, hq hv3 (hown4 3 (by omega))⟩)
    have CJ := joinLv_any (w4.heap.size + 1) L (some ⟨w4.heap.size, 0, none⟩) 4 2400 _ (by simp) hLn (by omega) (by omega) HLV.out hLw
    rw [hL4] at CJ
    have HCJ := Lib.hid CJ
    have HB5 := Lib.hid (HB4.out.alloc HB4.out.size (.cells #[.slice s0 (L.getD 0 []).length d0, .slice s1 (L.getD 1 []).length d1, .slice s2 (L.getD 2 []).length d2, .slice s3 (L.getD 3 []).length d3] 47))
    have hs4 := HB4.out.size
    obtain ⟨m0, hm0⟩ : ∃ n, (L.getD 0 []).length = n := ⟨_, rfl⟩
    obtain ⟨m1, hm1⟩ : ∃ n, (L.getD 1 []).length = n := ⟨_, rfl⟩
    obtain ⟨m2, hm2⟩ : ∃ n, (L.getD 2 []).length = n := ⟨_, rfl⟩
    obtain ⟨m3, hm3⟩ : ∃ n, (L.getD 3 []).length = n := ⟨_, rfl⟩
    rw [hm0, hm1, hm2, hm3] at HCJ HB5
    rw [hm0, hm1, hm2, hm3]
    have HKL := Lib.hid (show keyB L = keyOf T rs by unfold keyOf; rw [HXS.out, HLL.out])
    clear hm0 hm1 hm2 hm3 hv0 hv1 hv2 hv3 r0 r1 r2 r3 hown4 HLV CJ hLn hLw
    go_wp2_with fail
    refine HCJ.out.mono ?_
    rintro e w6 ⟨v6, rfl, hown6, hb6⟩
    have HB6 := Lib.hid (HB5.out.trans (hb6.mono (by omega)))
    obtain ⟨key, hkey⟩ : ∃ key, keyB L = key := ⟨_, rfl⟩
    rw [hkey] at hown6 HKL
    obtain ⟨p6, c6, rfl, _, hr6⟩ := Own.row hown6
    rw [numsB_length]
    have hrun := Sc.run_string w6 key p6 c6 hr6
    clear hb6 hown6 hr6 HCJ hkey
    by_cases hk : 640 < key.length
    · have hkz : (640 : Int) < (key.length : Int) := by omega
      go_wp2_with fail
      go_ret2
      exact ⟨[], 3, rfl, HB6.out, rs, wr0, HRD.out, Or.inr ⟨by rw [HER.out, HE0.out, HZ.out], Or.inl ⟨by rw [← HKL.out]; exact hk, rfl, rfl⟩⟩⟩
    · have hkz : decide ((640 : Int) < (key.length : Int)) = false := decide_eq_false (by omega)
      have hkn : decide (640 < key.length) = false := decide_eq_false hk
      have HK := Lib.hid (show key.length ≤ 640 by omega)
      clear hk
      go_wp2_with fail
      go_ret2
      exact ⟨key, 0, rfl, HB6.out, rs, wr0, HRD.out, Or.inr ⟨by rw [HER.out, HE0.out, HZ.out], Or.inr ⟨by rw [← HKL.out]; exact HK.out, rfl, HKL.out⟩⟩⟩
  · have hzb : ((e0 : Int) != 0) = true := by simp [hz]
    have HZ := Lib.hid hz
    clear hz
    go_wp2_with fail
    go_ret2
    exact ⟨[], e0, rfl, HB3.out, rs, wr0, HRD.out, Or.inl ⟨by rw [HER.out, HE0.out]; exact HZ.out, by rw [HER.out, HE0.out], rfl⟩⟩
end Go.Proofs.YtcocmmndonlhkaaDoor
namespace Go.Proofs.YtcocmmndonlhkaaDoor
open Go.RowKit Go.Gz Go.Sort

theorem rdIs_one {s : ByteArray} {rs rs' : List Int} {wr wr' : Int} (h : RdIs s rs wr) (h' : RdIs s rs' wr') : rs = rs' ∧ wr = wr' := by
  rcases h with ⟨a, rfl, rfl⟩ | ⟨a, b, rfl, rfl⟩ | ⟨a, b, c, rfl⟩ <;> rcases h' with ⟨a', rfl, rfl⟩ | ⟨a', b', rfl, rfl⟩ | ⟨a', b', c', rfl⟩
  · exact ⟨rfl, rfl⟩
  · omega
  · omega
  · omega
  · exact ⟨rfl, rfl⟩
  · exact absurd ⟨rs', b', c'⟩ b
  · omega
  · exact absurd ⟨rs, b, c⟩ b'
  · exact ⟨encAll_inj b b' (c.symm.trans c'), rfl⟩
theorem makeIs_one {T : TB} {s : ByteArray} {k k' : List UInt8} {er er' : Int} (h : MakeIs T s k er) (h' : MakeIs T s k' er') : k = k' ∧ er = er' := by
  obtain ⟨rs, wr, hr, h⟩ := h
  obtain ⟨rs', wr', hr', h'⟩ := h'
  obtain ⟨rfl, rfl⟩ := rdIs_one hr hr'
  rcases h with ⟨a, b, c⟩ | ⟨a, ⟨b, c, d⟩ | ⟨b, c, d⟩⟩ <;> rcases h' with ⟨a', b', c'⟩ | ⟨a', ⟨b', c', d'⟩ | ⟨b', c', d'⟩⟩
  · exact ⟨c.trans c'.symm, b.trans b'.symm⟩
  · exact absurd a' a
  · exact absurd a' a
  · exact absurd a a'
  · exact ⟨d.trans d'.symm, c.trans c'.symm⟩
  · omega
  · exact absurd a a'
  · omega
  · exact ⟨d.trans d'.symm, c.trans c'.symm⟩
/-- a text whose runes are known, by a table that may be. -/
theorem makeIs_ok {T : TB} {s : ByteArray} {k : List UInt8} {er : Int} (h : MakeIs T s k er) {rs : List Int} (hv : ∀ r ∈ rs, V r) (hs : s.data.toList = encAll rs) (h64 : s.size ≤ 64) (hm : mayWB T.ls T.rs T.top = true) :
    (640 < (keyOf T rs).length ∧ er = 3 ∧ k = []) ∨ ((keyOf T rs).length ≤ 640 ∧ er = 0 ∧ k = keyOf T rs) := by
  obtain ⟨rs', wr', hr', h'⟩ := h
  obtain ⟨rfl, rfl⟩ := rdIs_one hr' (Or.inr (Or.inr ⟨h64, hv, hs, rfl⟩))
  have he : errE T rs' = 0 := by
    unfold errE
    have hn : rs'.any mayNotB = false := List.any_eq_false.2 fun r hr => by rw [v_may (hv r hr)]; simp
    rw [if_pos hm, hn]; rfl
  rw [he] at h'
  rcases h' with ⟨a, _⟩ | ⟨_, b⟩
  · exact absurd (show (if (0 : Int) = 0 then (0 : Int) else 0) = 0 from rfl) a
  · exact b

/-- two texts held against one another. -/
def RetCmp (T : TB) (a b : ByteArray) (W : World) (e : Ending) (w' : World) : Prop :=
  ∃ ka ea kb eb er c, MakeIs T a ka ea ∧ MakeIs T b kb eb ∧ er = (if ea = 0 then eb else ea) ∧ (er ≠ 0 → c = 0) ∧ (er = 0 → c = Lib.compareBytes ka kb) ∧ e = .returned (.tuple #[.int .i64 c, .int .i64 er]) ∧ Below W.heap.size W w'

set_option maxHeartbeats 2000000 in
theorem skcompare_any (T : TB) (a b : ByteArray) (W : World) (hT : TabIn W T) (hl1 : T.ls.length ≤ 100) (hl2 : T.rs.length ≤ 100) (hU : Lib.Utf8Tabs 1 2 W) (ha : a.size ≤ 9223372036854775807) (hb : b.size ≤ 9223372036854775807) :
    Calls Tryd.prog 10 #[.agg #[.slice T.lp T.ls.length T.lc, .slice T.rp T.rs.length T.rc, .int .i64 T.top, .bool T.sh], .string a, .string b] W (RetCmp T a b W) := by
  have CM := Lib.hid (fun s w (hbw : Below W.heap.size W w) hs => make_any T s w (hT.below hbw) hl1 hl2 (Sc.tabs_below hU hbw) hs)
  clear hT hl1 hl2 hU
  go_enter Tryd.func10, Tryd.ntmps10
  go_wp2_with fail
  obtain ⟨w0, hw0⟩ : ∃ w0, W.alloc (.cells #[.slice T.lp T.ls.length T.lc, .slice T.rp T.rs.length T.rc, .int .i64 T.top, .bool T.sh] 33) = w0 := ⟨_, rfl⟩
  rw [hw0]
  have HB0 := Lib.hid (show Below W.heap.size W w0 from hw0 ▸ (Below.refl _ _).alloc (Nat.le_refl _) _)
  have HX0 := Lib.hid (show BoxAt w0 W.heap.size T from hw0 ▸ BoxAt.new W T _)
  clear hw0
  refine (CM.out a w0 HB0.out ha).mono ?_
  rintro e w1 ⟨ka, ea, rfl, hb1, hma⟩
  have HX1 := Lib.hid (HX0.out.below hb1)
  have HB1 := Lib.hid (HB0.out.trans (hb1.mono HB0.out.size))
  have HMA := Lib.hid hma
  clear hb1 hma
  obtain ⟨_, t0, t1, t2, t3⟩ := HX1.out
  go_wp2_with fail
  refine (CM.out b w1 HB1.out hb).mono ?_
  rintro e w2 ⟨kb, eb, rfl, hb2, hmb⟩
  have HB2 := Lib.hid (HB1.out.trans (hb2.mono HB1.out.size))
  have HMB := Lib.hid hmb
  clear hb2 hmb t0 t1 t2 t3 CM
  have hlit := Lib.hid (row_lit w2 .i64 34 [ea, eb])
  have CO := Lib.hid (or_any ea eb _ 2 _ hlit.out)
  obtain ⟨e0, he0⟩ : ∃ e0, (if ea = 0 then eb else ea) = e0 := ⟨_, rfl⟩
  rw [he0] at CO
  have HE0 := Lib.hid he0
  clear he0
  go_wp2_with fail
  refine CO.out.mono ?_
  rintro e w3 ⟨rfl, hw3⟩
  have HB23 := Lib.hid (show Below w2.heap.size w2 w3 from hw3 ▸ (Below.refl _ _).alloc (Nat.le_refl _) _)
  have HB3 := Lib.hid (HB2.out.trans (HB23.out.mono HB2.out.size))
  clear hw3 hlit CO
  by_cases hz : e0 = 0
  · have hzb : ((e0 : Int) != 0) = false := by simp [hz]
    have HZ := Lib.hid hz
    clear hz
    have CC := Lib.hid (fun w => Sc.compare_any ⟨ka.toArray⟩ ⟨kb.toArray⟩ w)
    obtain ⟨cv, hcv⟩ : ∃ cv, Lib.compareBytes ka kb = cv := ⟨_, rfl⟩
    have HCV := Lib.hid hcv
    simp only [hcv] at CC
    clear hcv
    go_wp2_with fail
    refine (CC.out _).mono ?_
    rintro e w4 ⟨rfl, hw4⟩
    obtain rfl : w4 = w3 := hw4
    go_wp2_with fail
    go_ret2
    exact ⟨ka, ea, kb, eb, 0, cv, HMA.out, HMB.out, by rw [HE0.out, HZ.out], fun h => absurd rfl h, fun _ => HCV.out.symm, rfl, HB3.out⟩
  · have hzb : ((e0 : Int) != 0) = true := by simp [hz]
    have HZ := Lib.hid hz
    clear hz
    go_wp2_with fail
    go_ret2
    exact ⟨ka, ea, kb, eb, e0, 0, HMA.out, HMB.out, HE0.out.symm, fun _ => rfl, fun h => absurd h HZ.out, rfl, HB3.out⟩
end Go.Proofs.YtcocmmndonlhkaaDoor
