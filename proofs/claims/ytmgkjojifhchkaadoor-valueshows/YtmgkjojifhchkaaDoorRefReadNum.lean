/- What the reference's Read answers of a text that does not begin as a text's does. -/
import Derived.Test.YtmgkjojifhchkaaDoorRefShow2
import Derived.Test.YtmgkjojifhchkaaDoorKept2
import Derived.Test.YtmgkjojifhchkaaDoorShowRead
namespace Go.Proofs.YtmgkjojifhchkaaDoor.Val
open Go.RowKit

/-- Two blocks of three cells that the call has laid, behind what keeps them. -/
theorem keptB {w wr : World} {x0 x1 x2 y0 y1 y2 : Value} {T : TypeId} (h : Below (w.heap.size + 2) ((w.alloc (.cells #[x0, x1, x2] T)).alloc (.cells #[y0, y1, y2] T)) wr) :
    ((wr.cell? ⟨w.heap.size, 0, none⟩ = some x0 ∧ wr.cell? ⟨w.heap.size, 1, none⟩ = some x1 ∧ wr.cell? ⟨w.heap.size, 2, none⟩ = some x2) ∧
    (wr.cell? ⟨w.heap.size + 1, 0, none⟩ = some y0 ∧ wr.cell? ⟨w.heap.size + 1, 1, none⟩ = some y1 ∧ wr.cell? ⟨w.heap.size + 1, 2, none⟩ = some y2)) ∧
    ((wr.frozen? ⟨w.heap.size, 0, none⟩ = false ∧ wr.frozen? ⟨w.heap.size, 1, none⟩ = false ∧ wr.frozen? ⟨w.heap.size, 2, none⟩ = false) ∧
    (wr.frozen? ⟨w.heap.size + 1, 0, none⟩ = false ∧ wr.frozen? ⟨w.heap.size + 1, 1, none⟩ = false ∧ wr.frozen? ⟨w.heap.size + 1, 2, none⟩ = false)) ∧ w.heap.size + 1 < wr.heap.size := by
  have k := h.size
  simp at k
  have hl : ∀ b o, b < w.heap.size + 2 → wr.cell? ⟨b, o, none⟩ = _ := fun b o hb => h.cell (p := ⟨b, o, none⟩) hb
  have hf : ∀ b o, b < w.heap.size + 2 → wr.frozen? ⟨b, o, none⟩ = _ := fun b o hb => h.frozen (p := ⟨b, o, none⟩) hb
  refine ⟨⟨⟨?_, ?_, ?_⟩, ⟨?_, ?_, ?_⟩⟩, ⟨⟨?_, ?_, ?_⟩, ⟨?_, ?_, ?_⟩⟩, by omega⟩
  · rw [hl _ _ (by omega)]; simp [go_sem]
  · rw [hl _ _ (by omega)]; simp [go_sem]
  · rw [hl _ _ (by omega)]; simp [go_sem]
  · rw [hl _ _ (by omega)]; simp [go_sem]
  · rw [hl _ _ (by omega)]; simp [go_sem]
  · rw [hl _ _ (by omega)]; simp [go_sem]
  · rw [hf _ _ (by omega)]; simp [go_sem]
  · rw [hf _ _ (by omega)]; simp [go_sem]
  · rw [hf _ _ (by omega)]; simp [go_sem]
  · rw [hf _ _ (by omega)]; simp [go_sem]
  · rw [hf _ _ (by omega)]; simp [go_sem]
  · rw [hf _ _ (by omega)]; simp [go_sem]

theorem below_end2 {w wr : World} {o1 o2 : Obj} {a b c : Value} (h : Below (w.heap.size + 2) ((w.alloc o1).alloc o2) wr) : Below w.heap.size w (((wr.setCell ⟨w.heap.size, 0, none⟩ a).setCell ⟨w.heap.size, 1, none⟩ b).setCell ⟨w.heap.size, 2, none⟩ c) :=
  ((((((Below.refl _ _).alloc (Nat.le_refl _) _).alloc (by simp) _).trans (h.mono (by omega))).setCell (by simp) _).setCell (by simp) _).setCell (by simp) _
set_option maxHeartbeats 1000000 in
theorem rread_num (s q : ByteArray) (n : Int) (m : Bool) (w : World) (hs : s.size ≤ 1000) (h0 : 0 < s.size) (hx : ((s[0].toNat : Int) == 120) = false) (hm : ((s[0].toNat : Int) == 45) = m) (hn : (if m = true then foldN s.data.toList else wrap64 (-foldN s.data.toList)) = n)
    (b : Bool) (hq : (q.toList == s.toList) = b) (hS : ∀ w1 : World, Calls Tryd.prog 24 #[V false n ⟨#[]⟩] w1 fun e w' => e = .returned (.string q) ∧ Below w1.heap.size w1 w') :
    Calls Tryd.prog 22 #[.string s] w fun e w' => e = .returned (if b = true then .tuple #[V false n ⟨#[]⟩, .int .i64 0] else .tuple #[V false 0 ⟨#[]⟩, .int .i64 10]) ∧ Below w.heap.size w w' := by
  have HN : Hid ((if m = true then foldN s.data.toList else wrap64 (-foldN s.data.toList)) = n) := hn
  have HS : Hid (∀ w1 : World, _) := hS
  clear hn hS
  have he := not_empty h0
  cases m <;> cases b <;> simp only [if_true, Bool.false_eq_true, if_false] at HN ⊢
  all_goals
    go_enter Tryd.func22, Tryd.ntmps22
    go_wp2
    go_loop [9, 11] (fun v i => ∃ k : Nat, k ≤ s.size ∧ i = .int .i64 k ∧ v = .int .i64 (foldN (s.data.toList.take k))) (fun _ i => s.size - (intOf i).toNat)
    case atStart => exact ⟨0, Nat.zero_le _, rfl, rfl⟩
    case round =>
      obtain ⟨k, hk, rfl, rfl⟩ := hrel
      by_cases hlt : k < s.size
      · have i1 : (k : Int) < (s.size : Int) := by omega
        have hb := s[k].toNat_lt
        have HF : Hid (foldN (s.data.toList.take (k + 1)) = stepN (foldN (s.data.toList.take k)) s[k]) := by
          show _ = _
          rw [List.take_succ_eq_append_getElem (by simpa using hlt), foldN_snoc]; rfl
        generalize foldN (s.data.toList.take k) = a at *
        by_cases h1 : 48 ≤ s[k].toNat ∧ s[k].toNat ≤ 57
        · have j1 : (48 : Int) ≤ (s[k].toNat : Int) := by omega
          have j2 : (s[k].toNat : Int) ≤ 57 := by omega
          have HV : Hid (foldN (s.data.toList.take (k + 1)) = wrap64 (wrap64 (a * 10) - ((s[k].toNat : Int) - 48))) := by
            have := HF.out
            unfold stepN at this
            rw [if_pos h1] at this
            exact this
          clear h1 HF
          go_wp2
          go_round
          case rel => exact ⟨k + 1, by omega, by go_num, by rw [HV.out]⟩
          case measure => simp [intOf]; omega
        · have HV : Hid (foldN (s.data.toList.take (k + 1)) = a) := by
            have := HF.out
            unfold stepN at this
            rw [if_neg h1] at this
            exact this
          clear HF
          by_cases j1 : 48 ≤ s[k].toNat
          · have j2 : decide ((s[k].toNat : Int) ≤ 57) = false := by simp; omega
            clear h1
            go_wp2
            go_round
            case rel => exact ⟨k + 1, by omega, by go_num, by rw [HV.out]⟩
            case measure => simp [intOf]; omega
          · have j2 : decide ((48 : Int) ≤ (s[k].toNat : Int)) = false := by simp; omega
            clear h1
            go_wp2
            go_round
            case rel => exact ⟨k + 1, by omega, by go_num, by rw [HV.out]⟩
            case measure => simp [intOf]; omega
      · have ek : s.data.toList.take k = s.data.toList := List.take_of_length_le (by simp; omega)
        rw [ek]
        clear ek
        generalize foldN s.data.toList = a at *
        have hv := HN.out
        (try subst hv)
        go_wp2_with fail
        refine Calls.mono (HS.out _) ?_
        rintro e w2 ⟨rfl, hb⟩
        have HB : Hid (Below (w.heap.size + 2) _ w2) := hb.mono (by simp)
        obtain ⟨⟨⟨c0, c1, c2⟩, d0, d1, d2⟩, ⟨⟨f0, f1, f2⟩, -⟩, hz⟩ := keptB HB.out
        clear hb
        go_wp2
        exact bodyPost_ret (v := _) (by simp [results, Tryd.results22, go_sem, c0, c1, c2]) rfl ⟨rfl, below_end2 HB.out⟩
end Go.Proofs.YtmgkjojifhchkaaDoor.Val
