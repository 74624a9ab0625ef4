/- The walk of the law NormalMeets. -/
import Derived.Test.YtfkhfplibhnceaaDoorLawNMeetsA
import Derived.Test.YtfkhfplibhnceaaDoorLawNMeetsB
import Derived.Test.YtfkhfplibhnceaaDoorLawNMeetsC
import Derived.Test.YtfkhfplibhnceaaDoorLawNMeetsD
namespace Go.Proofs.YtfkhfplibhnceaaDoor.Val
open Go.RowKit

theorem nmeets_walk (a b : Sp) (x : Val) (w : World) (hT : Tab w) : Calls Tryd.prog 7 #[a.val, b.val, V x.t x.n x.s] w fun e w' => e = .returned (.bool true) ∧ Below w.heap.size w w' := by
  have K := MK.of a b x
  have hg : withinS a x = true ∨ withinS b x = true → withinS (hullS a b) x = true := fun h => hull_has a b x (by rcases h with h | h <;> simp [h])
  have hm := meet_no (a := a) (b := b)
  have hw : withinS a x = true → withinS b x = true → (meetS a b).no = false := fun h1 h2 => by
    have h := within_meet a b x
    rw [h1, h2, within_eq] at h
    cases hn : (meetS a b).no
    · rfl
    · rw [hn] at h; exact h.symm
  cases h1 : withinS a x <;> cases h2 : withinS b x <;> rw [h1, h2] at K <;> cases h3 : (meetS a b).no
  · exact nmeets_000 a b x _ _ _ _ _ h3 K w hT
  · rw [hm h3] at K; exact nmeets_001 a b x _ _ _ _ K w hT
  · rw [hg (by simp [h1, h2])] at K; exact nmeets_010 a b x _ _ _ _ h3 K w hT
  · rw [hg (by simp [h1, h2])] at K; rw [hm h3] at K; exact nmeets_011 a b x _ _ _ K w hT
  · rw [hg (by simp [h1, h2])] at K; exact nmeets_100 a b x _ _ _ _ h3 K w hT
  · rw [hg (by simp [h1, h2])] at K; rw [hm h3] at K; exact nmeets_101 a b x _ _ _ K w hT
  · rw [hg (by simp [h1, h2])] at K; exact nmeets_110 a b x _ _ _ _ h3 K w hT
  · rw [hw h1 h2] at h3; cases h3
end Go.Proofs.YtfkhfplibhnceaaDoor.Val
