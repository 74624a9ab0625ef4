/- What lower, upper, closed, open, apart, between, clean of package normal answer. -/
import Derived.Test.YtfkhfplibhnceaaDoorNormPlain
import Derived.Test.YtfkhfplibhnceaaDoorPredBox
import Derived.Test.YtfkhfplibhnceaaDoorCmp
namespace Go.Proofs.YtfkhfplibhnceaaDoor.Val
open Go.RowKit

set_option maxHeartbeats 1000000 in
theorem lower_any (s : Sp) (w : World) : Calls Tryd.prog 34 #[s.val] w fun e w' => e = .returned (lowE s).val ∧ Below w.heap.size w w' := by
  cases s with | mk no hl ol lo hh oh hi =>
  unfold Sp.val
  cases hl
  · go_enter Tryd.func34, Tryd.ntmps34
    go_wp2_with fail
    refine bodyPost_ret (v := En.zero.val) (by simp [results, Tryd.results34, go_sem, En.val, En.zero, Val.zero]) rfl ⟨rfl, ?_⟩
    exact back1 (alloc1 _ _)
  · go_enter Tryd.func34, Tryd.ntmps34
    go_wp2_with fail
    refine bodyPost_ret (v := (En.mk true ol lo).val) (by simp [results, Tryd.results34, go_sem, En.val]) rfl ⟨rfl, ?_⟩
    exact back1 (alloc1 _ _)
set_option maxHeartbeats 1000000 in
theorem upper_any (s : Sp) (w : World) : Calls Tryd.prog 36 #[s.val] w fun e w' => e = .returned (uppE s).val ∧ Below w.heap.size w w' := by
  cases s with | mk no hl ol lo hh oh hi =>
  unfold Sp.val
  cases hh
  · go_enter Tryd.func36, Tryd.ntmps36
    go_wp2_with fail
    refine bodyPost_ret (v := En.zero.val) (by simp [results, Tryd.results36, go_sem, En.val, En.zero, Val.zero]) rfl ⟨rfl, ?_⟩
    exact back1 (alloc1 _ _)
  · go_enter Tryd.func36, Tryd.ntmps36
    go_wp2_with fail
    refine bodyPost_ret (v := (En.mk true oh hi).val) (by simp [results, Tryd.results36, go_sem, En.val]) rfl ⟨rfl, ?_⟩
    exact back1 (alloc1 _ _)
set_option maxHeartbeats 1000000 in
theorem closed_any (x : Val) (w : World) : Calls Tryd.prog 35 #[V x.t x.n x.s] w fun e w' => e = .returned (closedE x).val ∧ Below w.heap.size w w' := by
  go_enter Tryd.func35, Tryd.ntmps35
  go_wp2_with fail
  refine bodyPost_ret (v := (closedE x).val) (by simp [results, Tryd.results35, go_sem, En.val, closedE]) rfl ⟨rfl, ?_⟩
  exact back1 (alloc1 _ _)
set_option maxHeartbeats 1000000 in
theorem open_any (x : Val) (w : World) : Calls Tryd.prog 62 #[V x.t x.n x.s] w fun e w' => e = .returned (openE x).val ∧ Below w.heap.size w w' := by
  go_enter Tryd.func62, Tryd.ntmps62
  go_wp2_with fail
  refine bodyPost_ret (v := (openE x).val) (by simp [results, Tryd.results62, go_sem, En.val, openE]) rfl ⟨rfl, ?_⟩
  exact back1 (alloc1 _ _)
theorem eql_E (a b : En) (w : World) : (binOp .eql 55 (.agg #[.bool a.has, .bool a.op, .bool a.x.t, .int .i64 a.x.n, .string a.x.s]) (.agg #[.bool b.has, .bool b.op, .bool b.x.t, .int .i64 b.x.n, .string b.x.s])).run Tryd.prog w = .ok (.bool (eqE a b)) w := by
  unfold eqE eqV
  by_cases h1 : a.has = b.has
  case neg => simp [go_sem, h1]
  by_cases h2 : a.op = b.op
  case neg => simp [go_sem, h1, h2]
  by_cases h3 : a.x.t = b.x.t
  case neg => simp [go_sem, h1, h2, h3]
  by_cases h4 : a.x.n = b.x.n
  case neg => simp [go_sem, h1, h2, h3, h4]
  by_cases h5 : a.x.s.toList = b.x.s.toList
  case neg => simp [go_sem, h1, h2, h3, h4, h5]
  simp [go_sem, h1, h2, h3, h4, h5]
end Go.Proofs.YtfkhfplibhnceaaDoor.Val
