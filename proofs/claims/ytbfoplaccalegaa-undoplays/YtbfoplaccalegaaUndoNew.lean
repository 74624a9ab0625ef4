/- What undo.New, Len and maySave answer. -/
import Derived.Test.YtbfoplaccalegaaUndoMap
import Derived.Carry
namespace Go.Proofs.Ytbfoplaccalegaa.Val
open Go Go.RowKit

/-- Room for so many entries. -/
def capR (room : Int) : Nat := (min (max room 0) 60).toNat
def newL (room : Nat) : Lg := ⟨room, [], none, none, none, []⟩
theorem capR_le (room : Int) : capR room ≤ 60 := by unfold capR; omega
theorem capR_int (room : Int) : ((capR room : Nat) : Int) = min (max room 0) 60 := by unfold capR; omega
theorem LG.fresh (room : Nat) (hr : room ≤ 60) (w' : World) (p mb : Nat) (hp : w'.heap[p]? = some (.cells #[.int .i64 (room : Int), .slice none 0 0, .bool false, .int .i64 0, .bool false, .int .i64 0, .bool false, .int .i64 0, .map (some mb), .slice none 0 0] TLg (0, 0)))
    (hm : w'.heap[mb]? = some (.map #[] 0)) : LG w' ⟨p, .slice none 0 0, mb, .slice none 0 0⟩ (newL room) :=
  ⟨hp, ⟨rfl, .inl ⟨rfl, rfl⟩⟩, by simp [newL], ⟨#[], 0, hm, rfl, by simp⟩, World.ownsRow_nil _ _ _ _, by simp [newL], by simp [Value.ownBlock], by simp [Value.ownBlock], fun k hk => by simp [Value.ownBlock] at hk, hr, Nat.zero_le _⟩
theorem new_done (w : World) (room r : Int) (hr : ((capR room : Nat) : Int) = r) : ∃ h : Hl, Ending.returned (.pointer (some ⟨w.heap.size + 1, 0, none⟩)) = .returned (.pointer (some ⟨h.p, 0, none⟩)) ∧
    LG ((w.alloc (.map #[] 0)).alloc (.cells #[.int .i64 r, .slice none 0 0, .bool false, .int .i64 0, .bool false, .int .i64 0, .bool false, .int .i64 0, .map (some w.heap.size), .slice none 0 0] TLg)) h (newL (capR room)) ∧
    Below w.heap.size w ((w.alloc (.map #[] 0)).alloc (.cells #[.int .i64 r, .slice none 0 0, .bool false, .int .i64 0, .bool false, .int .i64 0, .bool false, .int .i64 0, .map (some w.heap.size), .slice none 0 0] TLg)) ∧ OwnH h w.heap.size ∧ h.ev = .slice none 0 0 ∧ h.tv = .slice none 0 0 := by
  refine ⟨⟨w.heap.size + 1, .slice none 0 0, w.heap.size, .slice none 0 0⟩, rfl, LG.fresh (capR room) (capR_le room) _ _ _ ?_ ?_, ((Below.refl _ _).alloc (Nat.le_refl _) _).alloc (by simp) _, ?_, rfl, rfl⟩
  · have := heap_alloc_new (w.alloc (.map #[] 0)) (.cells #[.int .i64 r, .slice none 0 0, .bool false, .int .i64 0, .bool false, .int .i64 0, .bool false, .int .i64 0, .map (some w.heap.size), .slice none 0 0] TLg)
    rw [show (w.alloc (.map #[] 0)).heap.size = w.heap.size + 1 by simp] at this
    rw [hr]; exact this
  · rw [Below.heap_alloc _ _ _ (by simp)]
    exact heap_alloc_new w _
  · intro a ha
    rcases ha with e | e | e | ⟨n, c, e, _⟩
    · simp at e; omega
    · simp at e; omega
    · simp [Value.ownBlock] at e
    · simp at e
theorem new_any (room : Int) (w : World) : Calls Try.prog 9 #[.int .i64 room] w fun e w' => ∃ h, e = .returned (.pointer (some ⟨h.p, 0, none⟩)) ∧ LG w' h (newL (capR room)) ∧ Below w.heap.size w w' ∧ OwnH h w.heap.size ∧ h.ev = .slice none 0 0 ∧ h.tv = .slice none 0 0 := by
  have hmm := @run_makeMap Try.prog
  go_enter Try.func9, Try.ntmps9
  go_wp2
  all_goals
    go_ret
    exact new_done w room _ (by unfold capR; omega)
theorem may_any (n : Int) (w : World) : Calls Try.prog 27 #[.int .i64 n] w fun e w' => e = .returned (.bool (decide (1 ≤ n) && decide (n ≤ 3))) ∧ w' = w := by
  by_cases h1 : 1 ≤ n
  · by_cases h3 : n ≤ 3
    · go_enter Try.func27, Try.ntmps27
      go_wp2
      go_ret
      simp [h1, h3]
    · go_enter Try.func27, Try.ntmps27
      go_wp2
      go_ret
      simp [h3]
  · go_enter Try.func27, Try.ntmps27
    go_wp2
    go_ret
    exact ⟨by rw [show decide (1 ≤ n) = false from decide_eq_false (by omega)]; rfl, rfl⟩
theorem len_any {w : World} {h : Hl} {L : Lg} (g : LG w h L) : Calls Try.prog 12 #[.pointer (some ⟨h.p, 0, none⟩)] w fun e w' => e = .returned (.int .i64 (L.es.length : Int)) ∧ w' = w := by
  obtain ⟨ao, c, he, _⟩ := g.slice
  have h1 := g.cells 1
  rw [he] at h1
  simp at h1
  clear g he
  go_enter Try.func12, Try.ntmps12
  go_wp2
  go_ret
  exact ⟨rfl, rfl⟩
end Go.Proofs.Ytbfoplaccalegaa.Val
