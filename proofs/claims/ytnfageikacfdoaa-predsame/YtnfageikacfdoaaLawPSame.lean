/- The walk of the law on what is the same. -/
import Derived.Test.YtnfageikacfdoaaPredMk
import Derived.Test.YtnfageikacfdoaaRefPSize
import Derived.Test.YtnfageikacfdoaaRefPSame
import Derived.Test.YtnfageikacfdoaaPredTwin
import Derived.Test.YtnfageikacfdoaaPredSpoil2
namespace Go.Proofs.Ytnfageikacfdoaa.Val
open Go.RowKit

/-- Four predicates' boxes. -/
structure Q4 (N K J : Nat) (a b c d : PT) (w : World) : Prop where
  pa : Box w N a
  pb : Box w (N + 1) b
  pc : Box w K c
  pd : Box w J d
theorem Q4.below {N K J : Nat} {a b c d : PT} {w w' : World} (h : Q4 N K J a b c d w) (hb : Below w.heap.size w w') : Q4 N K J a b c d w' := ⟨h.pa.below hb, h.pb.below hb, h.pc.below hb, h.pd.below hb⟩
/-- The same, told by one Bool. -/
theorem same_bool (f : FuncId) (p q : PT) (s : Bool) (hs : s = true ↔ p.bare = q.bare) (h : SameOk f p q) (w : World) (hp : In w p) (hq : In w q) : Calls Try.prog f #[p.val, q.val] w fun e w' => e = .returned (.bool s) ∧ Below w.heap.size w w' := by
  refine Calls.mono (h w hp hq) ?_
  rintro e w' ⟨b, h1, h2, h3⟩
  refine ⟨?_, h3⟩
  rw [h1]
  have : b = s := by rw [Bool.eq_iff_iff, h2, hs]
  rw [this]
set_option maxHeartbeats 8000000 in
theorem same_walk (a b : PT) (w : World) (hia : In w a) (hib : In w b) :
    Calls Try.prog 5 #[a.val, b.val] w fun e w' => e = .returned (.bool true) ∧ Below w.heap.size w w' := by
  have H0 : Hid (∀ w1, Calls Try.prog 11 #[] w1 fun e w' => e = .returned (.bool true) ∧ Below w1.heap.size w1 w') := awake_any
  have HP : Hid (In w a ∧ In w b) := ⟨hia, hib⟩
  have HT : Hid _ := BB.new w a b 26 26
  have FA : Hid (∀ w1, Below w.heap.size w w1 → Calls Try.prog 12 #[a.val, .int .i64 0] w1 fun e w' => ∃ b, e = .returned (.bool b) ∧ (b = true → a.size ≤ 200) ∧ Below w1.heap.size w1 w') := fun w1 hb => few_any a w1 (hia.keep hb)
  have FB : Hid (∀ w1, Below w.heap.size w w1 → Calls Try.prog 12 #[b.val, .int .i64 0] w1 fun e w' => ∃ c, e = .returned (.bool c) ∧ (c = true → b.size ≤ 200) ∧ Below w1.heap.size w1 w') := fun w1 hb => few_any b w1 (hib.keep hb)
  obtain ⟨s, hs⟩ : ∃ s : Bool, s = true ↔ a.bare = b.bare := by
    by_cases h : a.bare = b.bare
    · exact ⟨true, by simp [h]⟩
    · exact ⟨false, by simp [h]⟩
  have C1 : Hid (∀ w1, Below w.heap.size w w1 → Calls Try.prog 22 #[a.val, b.val] w1 fun e w' => e = .returned (.bool s) ∧ Below w1.heap.size w1 w') := fun w1 hb => same_bool _ a b s hs (psame_any a b) w1 (hia.keep hb) (hib.keep hb)
  have C2 : Hid (∀ w1, Below w.heap.size w w1 → Calls Try.prog 23 #[a.val, b.val] w1 fun e w' => e = .returned (.bool s) ∧ Below w1.heap.size w1 w') := fun w1 hb => same_bool _ a b s hs (rsame_any a b) w1 (hia.keep hb) (hib.keep hb)
  have C3 : Hid (∀ q w1, q.bare = a.bare → In w1 q → Below w.heap.size w w1 → Calls Try.prog 23 #[a.val, q.val] w1 fun e w' => e = .returned (.bool true) ∧ Below w1.heap.size w1 w') := fun q w1 hq hi hb => same_bool _ a q true (by simp [hq]) (rsame_any a q) w1 (hia.keep hb) hi
  clear hs hia hib
  unfold PT.val at *
  go_enter Try.func5, Try.ntmps5
  go_wp2_with fail
  refine Calls.mono (H0.out _) ?_
  rintro e w1 ⟨rfl, hb⟩
  have T1 : Hid (BB w.heap.size a b w1) := HT.out.below hb
  have HB1 : Hid (Below w.heap.size w w1) := back2 hb
  clear hb H0 HT
  obtain ⟨⟨a0, a1, a2, a3, a4, a5, a6, a7, a8⟩, ⟨b0, b1, b2, b3, b4, b5, b6, b7, b8⟩⟩ := T1.out
  go_wp2_with fail
  refine Calls.mono (FA.out _ HB1.out) ?_
  rintro e w2 ⟨ba, rfl, hsa, hb⟩
  have T2 : Hid (BB w.heap.size a b w2) := T1.out.below hb
  have HB2 : Hid (Below w.heap.size w w2) := on HB1.out hb
  have HSA : Hid (ba = true → a.size ≤ 200) := hsa
  clear hb HB1 T1 FA hsa a0 a1 a2 a3 a4 a5 a6 a7 a8 b0 b1 b2 b3 b4 b5 b6 b7 b8
  obtain ⟨⟨a0, a1, a2, a3, a4, a5, a6, a7, a8⟩, ⟨b0, b1, b2, b3, b4, b5, b6, b7, b8⟩⟩ := T2.out
  go_wp2_with fail
  refine Calls.mono (FB.out _ HB2.out) ?_
  rintro e w3 ⟨bb, rfl, hsb, hb⟩
  have T3 : Hid (BB w.heap.size a b w3) := T2.out.below hb
  have HB3 : Hid (Below w.heap.size w w3) := on HB2.out hb
  clear hb HB2 T2 FB hsb a0 a1 a2 a3 a4 a5 a6 a7 a8 b0 b1 b2 b3 b4 b5 b6 b7 b8
  cases ba
  · go_wp2_with fail
    go_ret
    exact ⟨rfl, HB3.out⟩
  cases bb
  · go_wp2_with fail
    go_ret
    exact ⟨rfl, HB3.out⟩
  have sa := HSA.out rfl
  have CL1 : Hid (Calls Try.prog 20 #[a.val] w3 fun e w' => ∃ q : PT, e = .returned q.val ∧ q.bare = a.bare ∧ New w' TP (fun b => w3.heap.size ≤ b) q ∧ Below w3.heap.size w3 w') := pclone_any a w3 (HP.out.1.keep HB3.out) (by omega)
  have TW1 : Hid (∀ w1, Below w.heap.size w w1 → Calls Try.prog 21 #[a.val] w1 fun e w' => ∃ q : PT, e = .returned q.val ∧ q.bare = a.bare ∧ New w' TP (fun b => w1.heap.size ≤ b) q ∧ Below w1.heap.size w1 w') := fun w1 hb => twin_ok a w1 (HP.out.1.keep hb) (by omega)
  have SZ : Hid (a.size ≤ 200) := sa
  clear HSA sa
  unfold PT.val at CL1 TW1
  obtain ⟨⟨a0, a1, a2, a3, a4, a5, a6, a7, a8⟩, ⟨b0, b1, b2, b3, b4, b5, b6, b7, b8⟩⟩ := T3.out
  go_wp2_with fail
  refine Calls.mono CL1.out ?_
  rintro e w4 ⟨c, rfl, hcb, hcn, hb⟩
  obtain ⟨ac, kc, hlc⟩ := hcn.row.slice
  have T4 : Hid (BB w.heap.size a b w4) := T3.out.below hb
  have HB4 : Hid (Below w.heap.size w w4) := on HB3.out hb
  have HZ : Hid (w.heap.size ≤ w3.heap.size ∧ w3.heap.size ≤ w4.heap.size) := ⟨HB3.out.size, hb.size⟩
  have HN : Hid (New w4 TP (fun b => w3.heap.size ≤ b ∧ b < w4.heap.size) c) := hcn.imp fun b h1 h2 => ⟨h1, h2⟩
  have HC : Hid (c.bare = a.bare ∧ True ∧ c.lv = .slice ac c.l.length kc) := ⟨hcb, trivial, hlc⟩
  have zN := T3.out.pq.lt
  have HN3 : Hid (w.heap.size + 1 < w3.heap.size) := zN
  clear hb HB3 T3 CL1 hcb hcn zN a0 a1 a2 a3 a4 a5 a6 a7 a8 b0 b1 b2 b3 b4 b5 b6 b7 b8
  rw [hlc]
  clear hlc
  have z0 := T4.out.pp.lt
  obtain ⟨⟨a0, a1, a2, a3, a4, a5, a6, a7, a8⟩, ⟨b0, b1, b2, b3, b4, b5, b6, b7, b8⟩⟩ := T4.out
  go_wp2_with fail
  refine Calls.mono (TW1.out _ (on HB4.out (alloc1 _ _))) ?_
  rintro e w5 ⟨d, rfl, hdb, hdn, hb⟩
  obtain ⟨ad, kd, hld⟩ := hdn.row.slice
  have QB := Box.new w4 c 26
  rw [pobj, HC.out.2.2] at QB
  have X5 : Hid (BB w.heap.size a b w5 ∧ Box w5 w4.heap.size c ∧ New w5 TP (fun b => w4.heap.size < b ∧ b < w5.heap.size) d ∧ New w5 TP (fun b => w3.heap.size ≤ b ∧ b < w4.heap.size) c ∧ Below w.heap.size w w5 ∧ w4.heap.size < w5.heap.size) :=
    ⟨T4.out.below (back1 hb), QB.below hb, hdn.imp fun b h1 h2 => ⟨by simp at h1; omega, h2⟩, HN.out.keep (back1 hb), on HB4.out (back1 hb), by have := hb.size; simp at this; omega⟩
  have HD : Hid (d.bare = a.bare ∧ True ∧ d.lv = .slice ad d.l.length kd) := ⟨hdb, trivial, hld⟩
  clear hb HB4 T4 TW1 hdb hdn QB HN z0 a0 a1 a2 a3 a4 a5 a6 a7 a8 b0 b1 b2 b3 b4 b5 b6 b7 b8
  rw [hld]
  clear hld
  go_wp2_with fail
  have QD := (Box.new w5 d 26).below (Below.refl _ _).drew
  have A6 : Below w5.heap.size w5 (w5.alloc (pobj d 26)).drew := (alloc1 _ _).drew
  have Q6 : Q4 w.heap.size w4.heap.size w5.heap.size a b c d (w5.alloc (pobj d 26)).drew := ⟨X5.out.1.pp.below A6, X5.out.1.pq.below A6, X5.out.2.1.below A6, QD⟩
  have D6 := X5.out.2.2.1.keep A6
  have C6 := X5.out.2.2.2.1.keep A6
  have HB6 : Below w.heap.size w (w5.alloc (pobj d 26)).drew := on X5.out.2.2.2.2.1 A6
  rw [pobj, HD.out.2.2] at Q6 D6 C6 HB6
  have HZ5 : Hid (w4.heap.size < w5.heap.size) := X5.out.2.2.2.2.2
  have C4 : ∀ q w1 aq kq, q.bare = a.bare → q.lv = .slice aq q.l.length kq → In w1 q → Below w.heap.size w w1 → Calls Try.prog 23 #[PV a.op a.col a.v.t a.v.n a.v.s a.w.t a.w.n a.w.s a.lv, PV q.op q.col q.v.t q.v.n q.v.s q.w.t q.w.n q.w.s (.slice aq q.l.length kq)] w1 fun e w' => e = .returned (.bool true) ∧ Below w1.heap.size w1 w' := fun q w1 aq kq h1 h2 h3 h4 => by
    have := C3.out q w1 h1 h3 h4; rw [h2] at this; exact this
  have HC4 : Hid _ := C4
  clear QD A6 X5 C4 C3
  refine wp_region_held_drew (S := fun w' => (w'.cell? ⟨w.heap.size, 0, none⟩ = some (.int .i64 a.op) ∧ w'.cell? ⟨w.heap.size, 1, none⟩ = some (.int .i64 a.col) ∧ w'.cell? ⟨w.heap.size, 2, none⟩ = some (.bool a.v.t) ∧ w'.cell? ⟨w.heap.size, 3, none⟩ = some (.int .i64 a.v.n) ∧ w'.cell? ⟨w.heap.size, 4, none⟩ = some (.string a.v.s) ∧ w'.cell? ⟨w.heap.size, 5, none⟩ = some (.bool a.w.t) ∧ w'.cell? ⟨w.heap.size, 6, none⟩ = some (.int .i64 a.w.n) ∧ w'.cell? ⟨w.heap.size, 7, none⟩ = some (.string a.w.s) ∧ w'.cell? ⟨w.heap.size, 8, none⟩ = some a.lv) ∧ (w'.cell? ⟨w.heap.size + 1, 0, none⟩ = some (.int .i64 b.op) ∧ w'.cell? ⟨w.heap.size + 1, 1, none⟩ = some (.int .i64 b.col) ∧ w'.cell? ⟨w.heap.size + 1, 2, none⟩ = some (.bool b.v.t) ∧ w'.cell? ⟨w.heap.size + 1, 3, none⟩ = some (.int .i64 b.v.n) ∧ w'.cell? ⟨w.heap.size + 1, 4, none⟩ = some (.string b.v.s) ∧ w'.cell? ⟨w.heap.size + 1, 5, none⟩ = some (.bool b.w.t) ∧ w'.cell? ⟨w.heap.size + 1, 6, none⟩ = some (.int .i64 b.w.n) ∧ w'.cell? ⟨w.heap.size + 1, 7, none⟩ = some (.string b.w.s) ∧ w'.cell? ⟨w.heap.size + 1, 8, none⟩ = some b.lv) ∧ (w'.cell? ⟨w4.heap.size, 0, none⟩ = some (.int .i64 c.op) ∧ w'.cell? ⟨w4.heap.size, 1, none⟩ = some (.int .i64 c.col) ∧ w'.cell? ⟨w4.heap.size, 2, none⟩ = some (.bool c.v.t) ∧ w'.cell? ⟨w4.heap.size, 3, none⟩ = some (.int .i64 c.v.n) ∧ w'.cell? ⟨w4.heap.size, 4, none⟩ = some (.string c.v.s) ∧ w'.cell? ⟨w4.heap.size, 5, none⟩ = some (.bool c.w.t) ∧ w'.cell? ⟨w4.heap.size, 6, none⟩ = some (.int .i64 c.w.n) ∧ w'.cell? ⟨w4.heap.size, 7, none⟩ = some (.string c.w.s) ∧ w'.cell? ⟨w4.heap.size, 8, none⟩ = some (.slice ac c.l.length kc)) ∧ (w'.cell? ⟨w5.heap.size, 0, none⟩ = some (.int .i64 d.op) ∧ w'.cell? ⟨w5.heap.size, 1, none⟩ = some (.int .i64 d.col) ∧ w'.cell? ⟨w5.heap.size, 2, none⟩ = some (.bool d.v.t) ∧ w'.cell? ⟨w5.heap.size, 3, none⟩ = some (.int .i64 d.v.n) ∧ w'.cell? ⟨w5.heap.size, 4, none⟩ = some (.string d.v.s) ∧ w'.cell? ⟨w5.heap.size, 5, none⟩ = some (.bool d.w.t) ∧ w'.cell? ⟨w5.heap.size, 6, none⟩ = some (.int .i64 d.w.n) ∧ w'.cell? ⟨w5.heap.size, 7, none⟩ = some (.string d.w.s) ∧ w'.cell? ⟨w5.heap.size, 8, none⟩ = some (.slice ad d.l.length kd))) (by kernel_rfl) ?_ (fun hHeld => ?_)
  · exact ⟨⟨Q6.pa.c0, Q6.pa.c1, Q6.pa.c2, Q6.pa.c3, Q6.pa.c4, Q6.pa.c5, Q6.pa.c6, Q6.pa.c7, Q6.pa.c8⟩, ⟨Q6.pb.c0, Q6.pb.c1, Q6.pb.c2, Q6.pb.c3, Q6.pb.c4, Q6.pb.c5, Q6.pb.c6, Q6.pb.c7, Q6.pb.c8⟩, ⟨Q6.pc.c0, Q6.pc.c1, Q6.pc.c2, Q6.pc.c3, Q6.pc.c4, Q6.pc.c5, Q6.pc.c6, Q6.pc.c7, Q6.pc.c8.trans (by rw [HC.out.2.2])⟩, ⟨Q6.pd.c0, Q6.pd.c1, Q6.pd.c2, Q6.pd.c3, Q6.pd.c4, Q6.pd.c5, Q6.pd.c6, Q6.pd.c7, Q6.pd.c8.trans (by rw [HD.out.2.2])⟩⟩
  (try clear hK K)
  refine wpAnyH_take (i := 0) (v := ?_) rfl (by kernel_rfl) (by kernel_rfl) (by kernel_rfl) (fun _ _ _ h => h) (Or.inl ⟨by rfl, ?_⟩) (by assumption) ?_
  rotate_left
  · intro w hSw; (try dsimp only at hSw); go_simp; (try with_reducible rfl)
  (try simp only [Act.put, List.getElem_toArray, List.getElem_cons_zero, List.setIfInBounds_toArray, List.set_cons_zero, List.set_cons_succ])
  refine wpAnyH_take (i := 1) (v := ?_) rfl (by kernel_rfl) (by kernel_rfl) (by kernel_rfl) (fun _ _ _ h => h) (Or.inl ⟨by rfl, ?_⟩) (by assumption) ?_
  rotate_left
  · intro w hSw; (try dsimp only at hSw); go_simp; (try with_reducible rfl)
  (try simp only [Act.put, List.getElem_toArray, List.getElem_cons_succ, List.getElem_cons_zero, List.setIfInBounds_toArray, List.set_cons_zero, List.set_cons_succ])
  refine wpAnyH_take (i := 3) (v := ?_) rfl (by kernel_rfl) (by kernel_rfl) (by kernel_rfl) (fun _ _ _ h => h) (Or.inl ⟨by rfl, ?_⟩) (by assumption) ?_
  rotate_left
  · intro w hSw; (try dsimp only at hSw); go_simp; (try with_reducible rfl)
  (try simp only [Act.put, List.getElem_toArray, List.getElem_cons_succ, List.getElem_cons_zero, List.setIfInBounds_toArray, List.set_cons_zero, List.set_cons_succ])
  refine wpAnyH_take (i := 4) (v := ?_) rfl (by kernel_rfl) (by kernel_rfl) (by kernel_rfl) (fun _ _ _ h => h) (Or.inl ⟨by rfl, ?_⟩) (by assumption) ?_
  rotate_left
  · intro w hSw; (try dsimp only at hSw); go_simp; (try with_reducible rfl)
  (try simp only [Act.put, List.getElem_toArray, List.getElem_cons_succ, List.getElem_cons_zero, List.setIfInBounds_toArray, List.set_cons_zero, List.set_cons_succ])
  (try clear hK K)
  refine wpAnyH_ready (rs := [2]) (by kernel_rfl) (by simp) ?_
  refine AllReadyH.cons rfl (fun K hK => ?_) AllReadyH.nil
  go_simp
  (refine Calls.mono (C1.out _ HB6) ?_; rintro e w7 ⟨rfl, hb7⟩; have Q7 := Q6.below hb7; have D7 := D6.keep hb7; have C7 := C6.keep hb7; have HB7 := on HB6 hb7)
  refine hK.out _ _ ?_ (fun hHeld => ?_)
  · exact ⟨⟨Q7.pa.c0, Q7.pa.c1, Q7.pa.c2, Q7.pa.c3, Q7.pa.c4, Q7.pa.c5, Q7.pa.c6, Q7.pa.c7, Q7.pa.c8⟩, ⟨Q7.pb.c0, Q7.pb.c1, Q7.pb.c2, Q7.pb.c3, Q7.pb.c4, Q7.pb.c5, Q7.pb.c6, Q7.pb.c7, Q7.pb.c8⟩, ⟨Q7.pc.c0, Q7.pc.c1, Q7.pc.c2, Q7.pc.c3, Q7.pc.c4, Q7.pc.c5, Q7.pc.c6, Q7.pc.c7, Q7.pc.c8.trans (by rw [HC.out.2.2])⟩, ⟨Q7.pd.c0, Q7.pd.c1, Q7.pd.c2, Q7.pd.c3, Q7.pd.c4, Q7.pd.c5, Q7.pd.c6, Q7.pd.c7, Q7.pd.c8.trans (by rw [HD.out.2.2])⟩⟩
  (try clear hK K)
  refine wpAnyH_ready (rs := [5]) (by kernel_rfl) (by simp) ?_
  refine AllReadyH.cons rfl (fun K hK => ?_) AllReadyH.nil
  go_simp
  (refine Calls.mono (C2.out _ HB7) ?_; rintro e w8 ⟨rfl, hb8⟩; have Q8 := Q7.below hb8; have D8 := D7.keep hb8; have C8 := C7.keep hb8; have HB8 := on HB7 hb8)
  refine hK.out _ _ ?_ (fun hHeld => ?_)
  · exact ⟨⟨Q8.pa.c0, Q8.pa.c1, Q8.pa.c2, Q8.pa.c3, Q8.pa.c4, Q8.pa.c5, Q8.pa.c6, Q8.pa.c7, Q8.pa.c8⟩, ⟨Q8.pb.c0, Q8.pb.c1, Q8.pb.c2, Q8.pb.c3, Q8.pb.c4, Q8.pb.c5, Q8.pb.c6, Q8.pb.c7, Q8.pb.c8⟩, ⟨Q8.pc.c0, Q8.pc.c1, Q8.pc.c2, Q8.pc.c3, Q8.pc.c4, Q8.pc.c5, Q8.pc.c6, Q8.pc.c7, Q8.pc.c8.trans (by rw [HC.out.2.2])⟩, ⟨Q8.pd.c0, Q8.pd.c1, Q8.pd.c2, Q8.pd.c3, Q8.pd.c4, Q8.pd.c5, Q8.pd.c6, Q8.pd.c7, Q8.pd.c8.trans (by rw [HD.out.2.2])⟩⟩
  have hss : (s != s) = false := by simp
  (try clear hK K)
  refine wpAnyH_take (i := 6) (v := ?_) rfl (by kernel_rfl) (by kernel_rfl) (by kernel_rfl) (fun _ _ _ h => h) (Or.inl ⟨by rfl, ?_⟩) (by assumption) ?_
  rotate_left
  · intro w hSw; (try dsimp only at hSw); go_simp; (try with_reducible rfl)
  (try simp only [Act.put, List.getElem_toArray, List.getElem_cons_succ, List.getElem_cons_zero, List.setIfInBounds_toArray, List.set_cons_zero, List.set_cons_succ])
  refine wpAnyH_take (i := 7) (v := ?_) rfl (by kernel_rfl) (by kernel_rfl) (by kernel_rfl) (fun _ _ _ h => h) (Or.inl ⟨by rfl, ?_⟩) (by assumption) ?_
  rotate_left
  · intro w hSw; (try dsimp only at hSw); go_simp; (try with_reducible rfl)
  (try simp only [Act.put, List.getElem_toArray, List.getElem_cons_succ, List.getElem_cons_zero, List.setIfInBounds_toArray, List.set_cons_zero, List.set_cons_succ])
  refine wpAnyH_take (i := 8) (v := ?_) rfl (by kernel_rfl) (by kernel_rfl) (by kernel_rfl) (fun _ _ _ h => h) (Or.inl ⟨by rfl, ?_⟩) (by assumption) ?_
  rotate_left
  · intro w hSw; (try dsimp only at hSw); go_simp; (try with_reducible rfl)
  (try simp only [Act.put, List.getElem_toArray, List.getElem_cons_succ, List.getElem_cons_zero, List.setIfInBounds_toArray, List.set_cons_zero, List.set_cons_succ])
  refine wpAnyH_take (i := 9) (v := ?_) rfl (by kernel_rfl) (by kernel_rfl) (by kernel_rfl) (fun _ _ _ h => h) (Or.inl ⟨by rfl, ?_⟩) (by assumption) ?_
  rotate_left
  · intro w hSw; (try dsimp only at hSw); go_simp; (try with_reducible rfl)
  (try simp only [Act.put, List.getElem_toArray, List.getElem_cons_succ, List.getElem_cons_zero, List.setIfInBounds_toArray, List.set_cons_zero, List.set_cons_succ])
  (try clear hK K)
  refine wpAnyH_ready (rs := [10]) (by kernel_rfl) (by simp) ?_
  refine AllReadyH.cons rfl (fun K hK => ?_) AllReadyH.nil
  go_simp
  (refine Calls.mono (HC4.out c _ _ _ HC.out.1 HC.out.2.2 C8.isIn HB8) ?_; rintro e w9 ⟨rfl, hb9⟩; have Q9 := Q8.below hb9; have D9 := D8.keep hb9; have C9 := C8.keep hb9; have HB9 := on HB8 hb9)
  refine hK.out _ _ ?_ (fun hHeld => ?_)
  · exact ⟨⟨Q9.pa.c0, Q9.pa.c1, Q9.pa.c2, Q9.pa.c3, Q9.pa.c4, Q9.pa.c5, Q9.pa.c6, Q9.pa.c7, Q9.pa.c8⟩, ⟨Q9.pb.c0, Q9.pb.c1, Q9.pb.c2, Q9.pb.c3, Q9.pb.c4, Q9.pb.c5, Q9.pb.c6, Q9.pb.c7, Q9.pb.c8⟩, ⟨Q9.pc.c0, Q9.pc.c1, Q9.pc.c2, Q9.pc.c3, Q9.pc.c4, Q9.pc.c5, Q9.pc.c6, Q9.pc.c7, Q9.pc.c8.trans (by rw [HC.out.2.2])⟩, ⟨Q9.pd.c0, Q9.pd.c1, Q9.pd.c2, Q9.pd.c3, Q9.pd.c4, Q9.pd.c5, Q9.pd.c6, Q9.pd.c7, Q9.pd.c8.trans (by rw [HD.out.2.2])⟩⟩
  (try clear hK K)
  refine wpAnyH_take (i := 11) (v := ?_) rfl (by kernel_rfl) (by kernel_rfl) (by kernel_rfl) (fun _ _ _ h => h) (Or.inl ⟨by rfl, ?_⟩) (by assumption) ?_
  rotate_left
  · intro w hSw; (try dsimp only at hSw); go_simp; (try with_reducible rfl)
  (try simp only [Act.put, List.getElem_toArray, List.getElem_cons_succ, List.getElem_cons_zero, List.setIfInBounds_toArray, List.set_cons_zero, List.set_cons_succ])
  refine wpAnyH_take (i := 12) (v := ?_) rfl (by kernel_rfl) (by kernel_rfl) (by kernel_rfl) (fun _ _ _ h => h) (Or.inl ⟨by rfl, ?_⟩) (by assumption) ?_
  rotate_left
  · intro w hSw; (try dsimp only at hSw); go_simp; (try with_reducible rfl)
  (try simp only [Act.put, List.getElem_toArray, List.getElem_cons_succ, List.getElem_cons_zero, List.setIfInBounds_toArray, List.set_cons_zero, List.set_cons_succ])
  refine wpAnyH_take (i := 13) (v := ?_) rfl (by kernel_rfl) (by kernel_rfl) (by kernel_rfl) (fun _ _ _ h => h) (Or.inl ⟨by rfl, ?_⟩) (by assumption) ?_
  rotate_left
  · intro w hSw; (try dsimp only at hSw); go_simp; (try with_reducible rfl)
  (try simp only [Act.put, List.getElem_toArray, List.getElem_cons_succ, List.getElem_cons_zero, List.setIfInBounds_toArray, List.set_cons_zero, List.set_cons_succ])
  refine wpAnyH_take (i := 14) (v := ?_) rfl (by kernel_rfl) (by kernel_rfl) (by kernel_rfl) (fun _ _ _ h => h) (Or.inl ⟨by rfl, ?_⟩) (by assumption) ?_
  rotate_left
  · intro w hSw; (try dsimp only at hSw); go_simp; (try with_reducible rfl)
  (try simp only [Act.put, List.getElem_toArray, List.getElem_cons_succ, List.getElem_cons_zero, List.setIfInBounds_toArray, List.set_cons_zero, List.set_cons_succ])
  refine wpAnyH_take (i := 15) (v := ?_) rfl (by kernel_rfl) (by kernel_rfl) (by kernel_rfl) (fun _ _ _ h => h) (Or.inl ⟨by rfl, ?_⟩) (by assumption) ?_
  rotate_left
  · intro w hSw; (try dsimp only at hSw); go_simp; (try with_reducible rfl)
  (try simp only [Act.put, List.getElem_toArray, List.getElem_cons_succ, List.getElem_cons_zero, List.setIfInBounds_toArray, List.set_cons_zero, List.set_cons_succ])
  (try clear hK K)
  refine wpAnyH_ready (rs := [16]) (by kernel_rfl) (by simp) ?_
  refine AllReadyH.cons rfl (fun K hK => ?_) AllReadyH.nil
  go_simp
  (refine Calls.mono (HC4.out d _ _ _ HD.out.1 HD.out.2.2 D9.isIn HB9) ?_; rintro e w10 ⟨rfl, hb10⟩; have Q10 := Q9.below hb10; have D10 := D9.keep hb10; have C10 := C9.keep hb10; have HB10 := on HB9 hb10)
  refine hK.out _ _ ?_ (fun hHeld => ?_)
  · exact ⟨⟨Q10.pa.c0, Q10.pa.c1, Q10.pa.c2, Q10.pa.c3, Q10.pa.c4, Q10.pa.c5, Q10.pa.c6, Q10.pa.c7, Q10.pa.c8⟩, ⟨Q10.pb.c0, Q10.pb.c1, Q10.pb.c2, Q10.pb.c3, Q10.pb.c4, Q10.pb.c5, Q10.pb.c6, Q10.pb.c7, Q10.pb.c8⟩, ⟨Q10.pc.c0, Q10.pc.c1, Q10.pc.c2, Q10.pc.c3, Q10.pc.c4, Q10.pc.c5, Q10.pc.c6, Q10.pc.c7, Q10.pc.c8.trans (by rw [HC.out.2.2])⟩, ⟨Q10.pd.c0, Q10.pd.c1, Q10.pd.c2, Q10.pd.c3, Q10.pd.c4, Q10.pd.c5, Q10.pd.c6, Q10.pd.c7, Q10.pd.c8.trans (by rw [HD.out.2.2])⟩⟩
  (try clear hK K)
  refine wpAnyH_take (i := 17) (v := ?_) rfl (by kernel_rfl) (by kernel_rfl) (by kernel_rfl) (fun _ _ _ h => h) (Or.inl ⟨by rfl, ?_⟩) (by assumption) ?_
  rotate_left
  · intro w hSw; (try dsimp only at hSw); go_simp; (try with_reducible rfl)
  (try simp only [Act.put, List.getElem_toArray, List.getElem_cons_succ, List.getElem_cons_zero, List.setIfInBounds_toArray, List.set_cons_zero, List.set_cons_succ])
  refine wpAnyH_take (i := 18) (v := ?_) rfl (by kernel_rfl) (by kernel_rfl) (by kernel_rfl) (fun _ _ _ h => h) (Or.inl ⟨by rfl, ?_⟩) (by assumption) ?_
  rotate_left
  · intro w hSw; (try dsimp only at hSw); go_simp; (try with_reducible rfl)
  (try simp only [Act.put, List.getElem_toArray, List.getElem_cons_succ, List.getElem_cons_zero, List.setIfInBounds_toArray, List.set_cons_zero, List.set_cons_succ])
  (try clear hK K)
  refine wpAnyH_done (by kernel_rfl) ?_ _
  have SP : Hid (Calls Try.prog 24 #[PV c.op c.col c.v.t c.v.n c.v.s c.w.t c.w.n c.w.s c.lv] w10 fun e w' => e = .returned (.tuple #[]) ∧ Spl (fun b => w3.heap.size ≤ b ∧ b < w4.heap.size) w10 w') :=
    spoil_ok c _ w10 _ _ _ _ _ _ _ _ C10.sh (by rw [size_of_bare HC.out.1]; have := SZ.out; omega) (fun k hk => Nat.lt_trans hk.2 Q10.pc.lt)
  have X10 : Hid (Q4 w.heap.size w4.heap.size w5.heap.size a b c d w10 ∧ New w10 TP (fun b => w4.heap.size < b ∧ b < w5.heap.size) d ∧ Below w.heap.size w w10) := ⟨Q10, D10, HB10⟩
  obtain ⟨c0, c1, c2, c3, c4, c5, c6, c7, c8⟩ := Q10.pc
  clear Q6 Q7 Q8 Q9 Q10 D6 D7 D8 D9 D10 C6 C7 C8 C9 C10 HB6 HB7 HB8 HB9 HB10 hb7 hb8 hb9 hb10 hHeld C1 C2 hss
  go_wp2_with fail
  refine Calls.mono SP.out ?_
  rintro e w11 ⟨rfl, hsp⟩
  have HB11 : Hid (Below w.heap.size w w11) := X10.out.2.2.trans (hsp.sv.below X10.out.2.2.size fun b hb hx => by have := HZ.out.1; omega)
  have A11 : Hid (Box w11 w.heap.size a) := X10.out.1.pa.sv hsp.sv (fun h => by have := HN3.out; omega)
  have D11 : Hid (Box w11 w5.heap.size d) := X10.out.1.pd.sv hsp.sv (fun h => by have := HZ5.out; omega)
  have I11 : Hid (In w11 d) := (X10.out.2.1.sv hsp.sv fun b hb h => by omega).isIn
  clear hsp X10 SP c0 c1 c2 c3 c4 c5 c6 c7 c8
  obtain ⟨a0, a1, a2, a3, a4, a5, a6, a7, a8⟩ := A11.out
  obtain ⟨d0, d1, d2, d3, d4, d5, d6, d7, d8⟩ := D11.out
  rw [HD.out.2.2] at d8
  go_wp2_with fail
  refine Calls.mono (HC4.out d _ _ _ HD.out.1 HD.out.2.2 I11.out HB11.out) ?_
  rintro e w12 ⟨rfl, hb⟩
  have HB12 : Hid (Below w.heap.size w w12) := on HB11.out hb
  clear hb HB11 A11 D11 I11 HC4 a0 a1 a2 a3 a4 a5 a6 a7 a8 d0 d1 d2 d3 d4 d5 d6 d7 d8
  go_wp2_with fail
  go_ret
  exact ⟨rfl, HB12.out⟩
end Go.Proofs.Ytnfageikacfdoaa.Val
