/-
  Layer once: the sorted keys of a map.
-/
import Derived.Test.YtjlkfoaccllflaaOnTab
import Derived.Test.YtjlkfoaccllflaaOnIter
namespace Go.Proofs.Ytjlkfoaccllflaa
open Go.RowKit Go.Gz Go.Maps Go.Sort Go.Shelf

theorem keys_any (w : World) (mb : Option Nat) :
    Calls Try.prog 27 #[.map mb] w fun e w' => e = .returned (.func (.func 31) #[] #[.pointer (some ⟨w.heap.size, 0, none⟩)]) ∧ w' = w.alloc (.cells #[.map mb] 56) :=
  callsIn_wide.1 (AnyZI.keys_in Try.keysL Fence.wide 5 trivial rfl mb w)
def RetKs (W : World) (L : List Ent) (e : Ending) (w' : World) : Prop := ∃ v, e = .returned v ∧ Own w' W.heap.size 3 .i64 v (L.map ck) ∧ Below W.heap.size W w'
set_option maxHeartbeats 1000000 in
theorem sorted_any (w : World) (mb : Option Nat) (L : List Ent) (hm : MapAt w mb L) (hL : L.length ≤ 1000000) :
    Calls Try.prog 26 #[.func (.func 31) #[] #[.pointer (some ⟨w.heap.size, 0, none⟩)]] (w.alloc (.cells #[.map mb] 56)) (RetKs (w.alloc (.cells #[.map mb] 56)) L) := by
  rcases hm with ⟨rfl, rfl⟩ | ⟨b, rfl, him⟩
  · have hseq : SeqGives Fence.wide 2 Try.prog 31 #[.pointer (some ⟨w.heap.size, 0, none⟩)] encZ (fun ss : List Int => ss = []) 0 (w.alloc (.cells #[.map none] 56)) :=
      AnyZI.keys_gives_nil (ρ := Try.keysL_ren) { Try.keysL with } Fence.wide _ trivial rfl w.heap.size _ (by simp) (by simp)
    have cS := AnyZI.sorted_in Try.sortedL Fence.wide 5 trivial trivial trivial trivial rfl (by omega) (Try.sortsL _) (enters_of Try.func30 (by kernel_rfl) rfl) 31 #[.pointer (some ⟨w.heap.size, 0, none⟩)] trivial (enters_of Try.func31 (by kernel_rfl) rfl) _ 0 (Nat.zero_le _) (by omega) _ hseq
    refine (callsIn_wide.1 cS).mono ?_
    rintro e w' ⟨v, ss, rfl, rfl, hrow, -, hb⟩
    refine ⟨v, rfl, ?_, hb⟩
    rw [List.mergeSort_nil] at hrow
    exact hrow
  · have hseq : SeqGives Fence.wide 2 Try.prog 31 #[.pointer (some ⟨w.heap.size, 0, none⟩)] encZ (fun ss => ss.Perm (intKeys (mapOf ck Ent.val L))) (Maps.size (mapOf ck Ent.val L)) (w.alloc (.cells #[.map (some b)] 56)) :=
      AnyZI.keys_gives (ρ := Try.keysL_ren) { Try.keysL with } Fence.wide _ trivial rfl (by omega) w.heap.size b L.length _ _ (by simp) (by simp) (R := heldR) (him.block (Below.heap_alloc _ _ b him.lt)).own
    have cS := AnyZI.sorted_in Try.sortedL Fence.wide 5 trivial trivial trivial trivial rfl (by omega) (Try.sortsL _) (enters_of Try.func30 (by kernel_rfl) rfl) 31 #[.pointer (some ⟨w.heap.size, 0, none⟩)] trivial (enters_of Try.func31 (by kernel_rfl) rfl) _ _ (by rw [size_mapOf]; unfold maxLen; omega) (by rw [size_mapOf]; omega) _ hseq
    refine (callsIn_wide.1 cS).mono ?_
    rintro e w' ⟨v, ss, rfl, hS, hrow, -, hb⟩
    rw [intKeys_mapOf] at hS
    rw [sort_keys hS him.ord] at hrow
    refine ⟨v, rfl, ?_, hb⟩
    unfold Own
    rw [List.length_map]
    have hl : ss.length = L.length := by rw [hS.length_eq, List.length_map]
    rw [hl] at hrow
    exact hrow
end Go.Proofs.Ytjlkfoaccllflaa
