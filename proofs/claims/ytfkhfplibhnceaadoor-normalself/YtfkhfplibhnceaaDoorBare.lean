/- What bare, below, Right and Compare of package value answer, over this seat's translation. No conditions. -/
import Derived.Test.YtfkhfplibhnceaaDoorRows
import Derived.WalkKit
import Derived.WalkSpells
import Derived.WalkLawsBesides
import Derived.Below
import Derived.Deep.RegionWith
import Derived.Outline
namespace Go.Proofs.YtfkhfplibhnceaaDoor.Val
open Go.RowKit

/-- A value as the machine has it. -/
abbrev V (t : Bool) (n : Int) (s : ByteArray) : Value := .agg #[.bool t, .int .i64 n, .string s]

theorem bare_text (n : Int) (s : ByteArray) (w : World) :
    Calls Tryd.prog 63 #[V true n s] w fun e w' => e = .returned (V true 0 s) ∧ Below w.heap.size w w' := by
  go_enter Tryd.func63, Tryd.ntmps63
  go_wp2
  exact bodyPost_ret (v := V true 0 s) (by simp [results, Tryd.results63, go_sem]) rfl ⟨rfl, ((Below.refl _ _).alloc (Nat.le_refl _) _).alloc (by simp) _⟩

theorem bare_number (n : Int) (s : ByteArray) (w : World) :
    Calls Tryd.prog 63 #[V false n s] w fun e w' => e = .returned (V false n ⟨#[]⟩) ∧ Below w.heap.size w w' := by
  go_enter Tryd.func63, Tryd.ntmps63
  go_wp2
  exact bodyPost_ret (v := V false n ⟨#[]⟩) (by simp [results, Tryd.results63, go_sem]) rfl ⟨rfl, ((Below.refl _ _).alloc (Nat.le_refl _) _).alloc (by simp) _⟩

end Go.Proofs.YtfkhfplibhnceaaDoor.Val
