/- Plain: what is made of two. No program. -/
import Derived.Test.YtnfageikacfdoaaPredMk
import Derived.Test.YtnfageikacfdoaaRefPSize
namespace Go.Proofs.Ytnfageikacfdoaa.Val
open Go.RowKit

theorem suit_bare (cols : List Bool) (p : PT) : suitP cols p.bare = suitP cols p := by
  cases p with | mk o c v u lv l => rw [bare_mk]; simp [suitP]
theorem ok_bare (cols : List Bool) (p : PT) : okP (suitP cols) p.bare = okP (suitP cols) p := by
  induction p using PT.ind with
  | h p ih =>
    rw [okP_mk, okP_mk, suit_bare]
    have : p.bare.l = p.l.map PT.bare := by cases p with | mk o c v u lv l => rw [bare_mk]
    rw [this, map_bare (okP (suitP cols)) p.l ih]
theorem ok_of_bare {p q : PT} (h : p.bare = q.bare) (cols : List Bool) : okP (suitP cols) p = okP (suitP cols) q := by rw [← ok_bare cols p, h, ok_bare]
theorem check_of_bare {p q : PT} (h : p.bare = q.bare) (cols : List Bool) : checkN cols p = checkN cols q := by unfold checkN mayP; rw [size_of_bare h, ok_of_bare h]
/-- All of two. -/
abbrev bothP (a b : PT) : PT := .mk 11 0 Val.zero Val.zero (.slice none 0 0) [a, b]
theorem both_size (a b : PT) : (bothP a b).size = a.size + b.size + 1 := by rw [size_mk]; simp; omega
theorem both_ok (cols : List Bool) (a b : PT) : okP (suitP cols) (bothP a b) = (okP (suitP cols) a && okP (suitP cols) b) := by rw [okP_mk]; simp [suitP, suitO]
theorem both_no {cols : List Bool} {a b : PT} (h : checkN cols a ≠ 0 ∨ checkN cols b ≠ 0) : checkN cols (bothP a b) ≠ 0 := by
  have ha := size_pos a
  have hb := size_pos b
  have hs := both_size a b
  have ho := both_ok cols a b
  unfold checkN mayP at *
  rw [hs, ho]
  cases ht : mayT cols
  · simp
  · rw [ht] at h
    simp only [if_true] at h ⊢
    cases h1 : okP (suitP cols) a
    · simp
    · cases h2 : okP (suitP cols) b
      · simp
      · rw [h1, h2] at h
        have : ¬ (a.size + b.size + 1 ≤ 15) := by
          intro hle
          rw [decide_eq_true (show a.size ≤ 15 by omega), decide_eq_true (show b.size ≤ 15 by omega)] at h
          simp at h
        simp [this]
theorem both_yes {cols : List Bool} {a b : PT} (h : checkN cols a = 0) (h' : checkN cols b = 0) : (checkN cols (bothP a b) == 0) = decide ((a.size : Int) + (b.size : Int) + 1 ≤ 15) := by
  have hs := both_size a b
  have ho := both_ok cols a b
  unfold checkN mayP at *
  rw [hs, ho]
  cases ht : mayT cols
  · rw [ht] at h; simp at h
  · rw [ht] at h h'
    simp only [if_true] at h h' ⊢
    cases h1 : okP (suitP cols) a
    · rw [h1] at h; simp at h
    · cases h2 : okP (suitP cols) b
      · rw [h2] at h'; simp at h'
      · by_cases hle : a.size + b.size + 1 ≤ 15
        · rw [decide_eq_true hle, decide_eq_true (show (a.size : Int) + (b.size : Int) + 1 ≤ 15 by omega)]; rfl
        · rw [decide_eq_false hle, decide_eq_false (show ¬ (a.size : Int) + (b.size : Int) + 1 ≤ 15 by omega)]; rfl
/-- And, of two. -/
theorem and_two (a b : PT) (hs : a.size + b.size ≤ 1000) (w1 : World) (lv : Value) (hlv : Lies w1 lv 2 (([a, b] : List PT).flatMap PT.cells)) (ha : In w1 a) (hb : In w1 b) :
    Calls Try.prog 25 #[lv] w1 fun e w' => ∃ (q : PT) (aq : Option Addr) (cq : Nat), e = .returned q.val ∧ (q.bare = (bothP a b).bare ∧ In w' q ∧ q.lv = .slice aq q.l.length cq) ∧ Below w1.heap.size w1 w' := by
  refine Calls.mono (and_any lv [a, b] w1 ⟨hlv, two_in ha hb⟩ (by simp [sizeL]; omega)) ?_
  rintro e w' ⟨q, e1, e2, e3, e4⟩
  obtain ⟨aq, cq, hl⟩ := e3.row.slice
  exact ⟨q, aq, cq, e1, ⟨e2.trans (bare_list ..), e3.isIn, hl⟩, e4⟩
end Go.Proofs.Ytnfageikacfdoaa.Val
