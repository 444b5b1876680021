/-
  utf8.AppendRune onto a buffer that has room, at every rune that may be; writeFirst.
-/
import Derived.Test.YtligebpjeolpmaaDoorScFirst
namespace Go.Proofs.YtligebpjeolpmaaDoor
open Go.RowKit Go.Gz

theorem nums_one {r : Int} (h0 : 0 ≤ r) (h1 : r ≤ 127) : nums (enc r) = [r] := by
  rw [enc_one h0 h1]; simp only [nums, List.map_cons, List.map_nil]; rw [u8 _ (by omega) (by omega)]; simp; omega
theorem nums_two {r : Int} (h0 : 128 ≤ r) (h1 : r ≤ 2047) : nums (enc r) = [192 + r / 64, 128 + r % 64] := by
  rw [enc_two h0 h1]; simp only [nums, List.map_cons, List.map_nil]; rw [u8 _ (by omega) (by omega), u8 _ (by omega) (by omega)]
  rw [Int.toNat_of_nonneg (by omega), Int.toNat_of_nonneg (by omega)]
theorem nums_three {r : Int} (h : (2048 ≤ r ∧ r < 55296) ∨ (57343 < r ∧ r ≤ 65535)) : nums (enc r) = [224 + r / 4096, 128 + r / 64 % 64, 128 + r % 64] := by
  rw [enc_three h]; simp only [nums, List.map_cons, List.map_nil]; rw [u8 _ (by omega) (by omega), u8 _ (by omega) (by omega), u8 _ (by omega) (by omega)]
  rw [Int.toNat_of_nonneg (by omega), Int.toNat_of_nonneg (by omega), Int.toNat_of_nonneg (by omega)]
theorem nums_four {r : Int} (h0 : 65536 ≤ r) (h1 : r ≤ 1114111) : nums (enc r) = [240 + r / 262144, 128 + r / 4096 % 64, 128 + r / 64 % 64, 128 + r % 64] := by
  rw [enc_four h0 h1]; simp only [nums, List.map_cons, List.map_nil]; rw [u8 _ (by omega) (by omega), u8 _ (by omega) (by omega), u8 _ (by omega) (by omega), u8 _ (by omega) (by omega)]
  rw [Int.toNat_of_nonneg (by omega), Int.toNat_of_nonneg (by omega), Int.toNat_of_nonneg (by omega), Int.toNat_of_nonneg (by omega)]

/-- what AppendRune does to a buffer. -/
def Pushed (B b cap : Nat) (xs ys : List Int) (w : World) (e : Ending) (w' : World) : Prop :=
  e = .returned (.slice (some ⟨b, 0, none⟩) (xs.length + ys.length) cap) ∧ Below B w w' ∧ Buf w' b .u8 cap (xs ++ ys)

theorem pushed_end {B b cap : Nat} {xs ys : List Int} {w : World} {o : Obj} (hB : B ≤ b) (hbuf : Buf w b .u8 cap xs) (hroom : xs.length + ys.length ≤ cap) :
    Below B w ((w.alloc o).setCells b xs.length (ys.map (Value.int .u8))) ∧ Buf ((w.alloc o).setCells b xs.length (ys.map (Value.int .u8))) b .u8 cap (xs ++ ys) :=
  ⟨below_setCells b hB _ _ _ ((Below.refl _ _).alloc (by have := hbuf.lt; omega) _), (hbuf.alloc _).push ys hroom⟩

set_option maxHeartbeats 1000000 in
set_option maxRecDepth 100000 in
theorem append_two (r : Int) (h0 : 128 ≤ r) (h1 : r ≤ 2047) (B b cap : Nat) (xs : List Int) (w : World) (hB : B ≤ b) (hbuf : Buf w b .u8 cap xs) (hroom : xs.length + 2 ≤ cap) (hcap : cap ≤ 1000000) :
    Calls Tryd.prog 32 #[.slice (some ⟨b, 0, none⟩) xs.length cap, .int .i32 r] w (Pushed B b cap xs [192 + r / 64, 128 + r % 64] w) := by
  have HB := Lib.hid hbuf; clear hbuf
  go_enter Tryd.func32, Tryd.ntmps32
  go_wp2_with (at_builtin; refine wpList_push _ rfl _ _ 42 rfl 5 .u8 1 Tryd.underlying42 info_byte (by decide) b cap xs rfl (HB.out.alloc _) w.heap.size 2 2 [192 + r / 64, 128 + r % 64] rfl rfl ?newCells hroom hcap ?_)
  case newCells =>
    intro j hj
    match j, hj with
    | 0, _ => simp
    | 1, _ => simp
  go_ret
  exact ⟨rfl, pushed_end (ys := [192 + r / 64, 128 + r % 64]) hB HB.out hroom⟩

set_option maxHeartbeats 1000000 in
set_option maxRecDepth 100000 in
theorem append_three_lo (r : Int) (h0 : 2048 ≤ r) (h1 : r < 55296) (B b cap : Nat) (xs : List Int) (w : World) (hB : B ≤ b) (hbuf : Buf w b .u8 cap xs) (hroom : xs.length + 3 ≤ cap) (hcap : cap ≤ 1000000) :
    Calls Tryd.prog 32 #[.slice (some ⟨b, 0, none⟩) xs.length cap, .int .i32 r] w (Pushed B b cap xs [224 + r / 4096, 128 + r / 64 % 64, 128 + r % 64] w) := by
  have HB := Lib.hid hbuf; clear hbuf
  go_enter Tryd.func32, Tryd.ntmps32
  go_wp2_with (at_builtin; refine wpList_push _ rfl _ _ 42 rfl 5 .u8 1 Tryd.underlying42 info_byte (by decide) b cap xs rfl (HB.out.alloc _) w.heap.size 3 3 [224 + r / 4096, 128 + r / 64 % 64, 128 + r % 64] rfl rfl ?newCells hroom hcap ?_)
  case newCells =>
    intro j hj
    match j, hj with
    | 0, _ => simp
    | 1, _ => simp
    | 2, _ => simp
  go_ret
  exact ⟨rfl, pushed_end (ys := [224 + r / 4096, 128 + r / 64 % 64, 128 + r % 64]) hB HB.out hroom⟩

set_option maxHeartbeats 1000000 in
set_option maxRecDepth 100000 in
theorem append_three_hi (r : Int) (h0 : 57343 < r) (h1 : r ≤ 65535) (B b cap : Nat) (xs : List Int) (w : World) (hB : B ≤ b) (hbuf : Buf w b .u8 cap xs) (hroom : xs.length + 3 ≤ cap) (hcap : cap ≤ 1000000) :
    Calls Tryd.prog 32 #[.slice (some ⟨b, 0, none⟩) xs.length cap, .int .i32 r] w (Pushed B b cap xs [224 + r / 4096, 128 + r / 64 % 64, 128 + r % 64] w) := by
  have HB := Lib.hid hbuf; clear hbuf
  go_enter Tryd.func32, Tryd.ntmps32
  go_wp2_with (at_builtin; refine wpList_push _ rfl _ _ 42 rfl 5 .u8 1 Tryd.underlying42 info_byte (by decide) b cap xs rfl (HB.out.alloc _) w.heap.size 3 3 [224 + r / 4096, 128 + r / 64 % 64, 128 + r % 64] rfl rfl ?newCells hroom hcap ?_)
  case newCells =>
    intro j hj
    match j, hj with
    | 0, _ => simp
    | 1, _ => simp
    | 2, _ => simp
  go_ret
  exact ⟨rfl, pushed_end (ys := [224 + r / 4096, 128 + r / 64 % 64, 128 + r % 64]) hB HB.out hroom⟩

set_option maxHeartbeats 1000000 in
set_option maxRecDepth 100000 in
theorem append_four (r : Int) (h0 : 65536 ≤ r) (h1 : r ≤ 1114111) (B b cap : Nat) (xs : List Int) (w : World) (hB : B ≤ b) (hbuf : Buf w b .u8 cap xs) (hroom : xs.length + 4 ≤ cap) (hcap : cap ≤ 1000000) :
    Calls Tryd.prog 32 #[.slice (some ⟨b, 0, none⟩) xs.length cap, .int .i32 r] w (Pushed B b cap xs [240 + r / 262144, 128 + r / 4096 % 64, 128 + r / 64 % 64, 128 + r % 64] w) := by
  have HB := Lib.hid hbuf; clear hbuf
  go_enter Tryd.func32, Tryd.ntmps32
  go_wp2_with (at_builtin; refine wpList_push _ rfl _ _ 42 rfl 5 .u8 1 Tryd.underlying42 info_byte (by decide) b cap xs rfl (HB.out.alloc _) w.heap.size 4 4 [240 + r / 262144, 128 + r / 4096 % 64, 128 + r / 64 % 64, 128 + r % 64] rfl rfl ?newCells hroom hcap ?_)
  case newCells =>
    intro j hj
    match j, hj with
    | 0, _ => simp
    | 1, _ => simp
    | 2, _ => simp
    | 3, _ => simp
  go_ret
  exact ⟨rfl, pushed_end (ys := [240 + r / 262144, 128 + r / 4096 % 64, 128 + r / 64 % 64, 128 + r % 64]) hB HB.out hroom⟩

/-- utf8.AppendRune at a rune that may be. -/
theorem append_rune (r : Int) (hv : V r) (B b cap : Nat) (xs : List Int) (w : World) (hB : B ≤ b) (hbuf : Buf w b .u8 cap xs) (hroom : xs.length + (nums (enc r)).length ≤ cap) (hcap : cap ≤ 1000000) :
    Calls Tryd.prog 29 #[.slice (some ⟨b, 0, none⟩) xs.length cap, .int .i32 r] w (Pushed B b cap xs (nums (enc r)) w) := by
  have other : Calls Tryd.prog 32 #[.slice (some ⟨b, 0, none⟩) xs.length cap, .int .i32 r] w (Pushed B b cap xs (nums (enc r)) w) →
      (128 ≤ r ∧ r ≤ 1114111) → Calls Tryd.prog 29 #[.slice (some ⟨b, 0, none⟩) xs.length cap, .int .i32 r] w (Pushed B b cap xs (nums (enc r)) w) := by
    intro cN hr
    have CN := Lib.hid cN; clear cN
    obtain ⟨h0, h1⟩ := hr
    go_enter Tryd.func29, Tryd.ntmps29
    go_wp2_with (go_at_call 32; refine CN.out.mono ?_; rintro e w1 ⟨rfl, h1, h2⟩)
    go_ret
    refine ⟨?_, h1, h2⟩
    rw [nums_length]
    rfl
  rcases V_cases hv with h | h | h | h
  · obtain ⟨h0, h1⟩ := h
    rw [nums_one h0 h1] at hroom ⊢
    clear other
    have HB := Lib.hid hbuf; clear hbuf
    go_enter Tryd.func29, Tryd.ntmps29
    go_wp2_with (at_builtin; refine wpList_push _ rfl _ _ 42 rfl 5 .u8 1 Tryd.underlying42 info_byte (by decide) b cap xs rfl (HB.out.alloc _) w.heap.size 1 1 [r] rfl rfl ?newCells hroom hcap ?_)
    case newCells =>
      intro j hj
      match j, hj with
      | 0, _ => simp
    go_ret
    exact ⟨rfl, pushed_end (ys := [r]) hB HB.out hroom⟩
  · refine other ?_ (by omega)
    rw [nums_two h.1 h.2] at hroom ⊢
    exact append_two r h.1 h.2 B b cap xs w hB hbuf hroom hcap
  · refine other ?_ (by omega)
    rw [nums_three h] at hroom ⊢
    rcases h with h | h
    · exact append_three_lo r h.1 h.2 B b cap xs w hB hbuf hroom hcap
    · exact append_three_hi r h.1 h.2 B b cap xs w hB hbuf hroom hcap
  · refine other ?_ (by omega)
    rw [nums_four h.1 h.2] at hroom ⊢
    exact append_four r h.1 h.2 B b cap xs w hB hbuf hroom hcap

theorem row_head {w : World} {k : IntKind} {p : Option Addr} {r : Int} {l : List Int} (h : Row w k p (r :: l)) : ∃ b off, p = some ⟨b, off, none⟩ ∧ b < w.heap.size ∧ w.cell? ⟨b, off, none⟩ = some (.int k r) := by
  rcases h with h | ⟨b, off, hp, hlt, hc⟩
  · cases h
  · exact ⟨b, off, hp, hlt, by have := hc 0 (by simp); simpa using this⟩

theorem writeFirst_bad (r : Int) (l : List Int) (hr : ¬ V r) (n : Nat) (h0 : 0 < n) (p : Option Addr) (c : Nat) (v : Value) (w : World) (hp : Row w .i32 p (r :: l)) :
    Calls Tryd.prog 21 #[v, .slice p n c] w fun e w' => e = .returned (.tuple #[v, .int .i64 0]) ∧ w' = w := by
  obtain ⟨b, off, rfl, hlt, hc⟩ := row_head hp
  have hm : Lib.validRune r = false := by
    cases h : Lib.validRune r
    · rfl
    · exact absurd ((validRune_iff r).1 h) hr
  have cM := may_any r w
  rw [hm] at cM
  have CM := Lib.hid cM; clear cM hm hr hp
  go_enter Tryd.func21, Tryd.ntmps21
  go_wp2_with (go_at_call 16; refine CM.out.mono ?_; rintro e w1 ⟨rfl, rfl⟩)
  go_ret2
  exact ⟨rfl, rfl⟩

theorem writeFirst_ok (r : Int) (l : List Int) (hr : V r) (n : Nat) (h0 : 0 < n) (p : Option Addr) (c : Nat) (w : World) (hp : Row w .i32 p (r :: l))
    (B b cap : Nat) (xs : List Int) (hB : B ≤ b) (hbuf : Buf w b .u8 cap xs) (hroom : xs.length + (nums (enc r)).length ≤ cap) (hcap : cap ≤ 1000000) :
    Calls Tryd.prog 21 #[.slice (some ⟨b, 0, none⟩) xs.length cap, .slice p n c] w fun e w' => e = .returned (.tuple #[.slice (some ⟨b, 0, none⟩) (xs.length + (enc r).length) cap, .int .i64 1]) ∧ Below B w w' ∧ Buf w' b .u8 cap (xs ++ nums (enc r)) := by
  obtain ⟨b', off, rfl, hlt, hc⟩ := row_head hp
  have cM := may_any r w
  rw [(validRune_iff r).2 hr] at cM
  have CM := Lib.hid cM; clear cM
  have CA := Lib.hid (append_rune r hr B b cap xs w hB hbuf hroom hcap)
  clear hp hr hbuf hroom
  go_enter Tryd.func21, Tryd.ntmps21
  go_wp2_with (first | (go_at_call 16; refine CM.out.mono ?_; rintro e w1 ⟨rfl, rfl⟩) | (go_at_call 29; refine CA.out.mono ?_; rintro e w1 ⟨rfl, h1, h2⟩))
  go_ret2
  refine ⟨?_, h1, h2⟩
  simp
end Go.Proofs.YtligebpjeolpmaaDoor
