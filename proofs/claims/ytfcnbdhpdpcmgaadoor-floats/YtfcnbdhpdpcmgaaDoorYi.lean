import Derived.Test.YtfcnbdhpdpcmgaaDoorYh
namespace Go.Proofs.YtfcnbdhpdpcmgaaDoor
open Go.RowKit
/-- a floating-point number as an item -/
abbrev itF (n : Nat) : Value := .agg #[.int .i64 8, .int .u64 n, str []]
theorem y_isOfItsKind (n : Nat) (w : World) : Calls Tryd.prog 72 #[itF n] w fun e w' => e = .returned (.bool true) ∧ Below w.heap.size w w' := by
  go_enter Tryd.func72, Tryd.ntmps72
  go_wp2_with fail
  go_ret
  exact ⟨rfl, (Below.refl _ _).alloc (Nat.le_refl _) _⟩
theorem y_inside (n : Nat) (w : World) : Calls Tryd.prog 25 #[itF n] w fun e w' => e = .returned (.int .u64 0) ∧ Below w.heap.size w w' := by
  go_enter Tryd.func25, Tryd.ntmps25
  go_wp2_with fail
  go_ret
  exact ⟨rfl, (Below.refl _ _).alloc (Nat.le_refl _) _⟩
theorem it_block (w : World) (n : Nat) : Below w.heap.size w (w.alloc (.cells #[.int .i64 8, .int .u64 n, str []] 28)) ∧ (w.alloc (.cells #[.int .i64 8, .int .u64 n, str []] 28)).heap[w.heap.size]? = some (.cells #[.int .i64 8, .int .u64 n, str []] 28) :=
  ⟨(Below.refl _ _).alloc (Nat.le_refl _) _, blk_new _ _⟩
theorem two_alloc (w : World) (A R : Obj) : Below w.heap.size w ((w.alloc A).alloc R) ∧ ((w.alloc A).alloc R).heap[w.heap.size]? = some A ∧ ((w.alloc A).alloc R).heap[w.heap.size + 1]? = some R := by
  refine ⟨((Below.refl _ _).alloc (Nat.le_refl _) _).alloc (by simp) _, ?_, ?_⟩
  · show ((w.heap.push A).push R)[w.heap.size]? = _
    rw [Array.getElem?_push, if_neg (by simp)]; simp
  · show ((w.heap.push A).push R)[w.heap.size + 1]? = _
    rw [Array.getElem?_push, if_pos (by simp)]
theorem y_headOf (n t k : Nat) (w : World) (h : Tabs w) (hf : Fl n t k) : Calls Tryd.prog 22 #[itF n] w fun e w' => e = .returned (headV 7 t k) ∧ Below w.heap.size w w' := by
  go_enter Tryd.func22, Tryd.ntmps22
  go_wp2_with fail
  obtain ⟨hb0, -, hz0⟩ := two_alloc w (.cells #[.int .i64 8, .int .u64 n, str []] 28) (.cells #[.int .u8 0, .int .u8 0, .int .u64 0] 53)
  generalize (w.alloc (.cells #[.int .i64 8, .int .u64 n, str []] 28)).alloc (.cells #[.int .u8 0, .int .u8 0, .int .u64 0] 53) = W at *
  refine (y_floatHead n t k _ (h.below hb0) hf).mono ?_
  rintro e w1 ⟨rfl, hb1⟩
  have hz1 := blk_below hz0 hb1
  have hbw := hb0.trans (hb1.mono hb0.size)
  clear hz0 hb1 hb0
  have y0 := blk_cell hz1 0
  have y1 := blk_cell hz1 1
  have y2 := blk_cell hz1 2
  have yf := blk_frozen hz1
  go_wp2_with fail
  (try simp only [Exit.inBlock, Exit.then])
  refine bodyPost_ret (results_cell_row (ty := 53) rfl _ _ (w.heap.size + 1) _ _ _ _ rfl (set3 hz1 _ _ _) rfl rfl rfl) rfl ?_
  exact ⟨rfl, bel_set (bel_set (bel_set hbw (Nat.le_succ _) _ _) (Nat.le_succ _) _ _) (Nat.le_succ _) _ _⟩
theorem y_faultOf (n : Nat) (w : World) (h : Tabs w) (hn : n < 18446744073709551616) (he : n / 4503599627370496 % 2048 ≤ 2046) : Calls Tryd.prog 71 #[itF n, .int .i64 1] w fun e w' => e = .returned (.int .i64 0) ∧ Below w.heap.size w w' := by
  go_enter Tryd.func71, Tryd.ntmps71
  go_wp2_with fail
  obtain ⟨hb0, hz0⟩ := it_block w n
  generalize w.alloc (.cells #[.int .i64 8, .int .u64 n, str []] 28) = W at *
  refine (y_isOfItsKind n _).mono ?_
  rintro e w1 ⟨rfl, hb1⟩
  have hz1 := blk_below hz0 hb1
  have hbw := hb0.trans (hb1.mono hb0.size)
  clear hz0 hb1 hb0
  have y0 := blk_cell hz1 0
  have y1 := blk_cell hz1 1
  have y2 := blk_cell hz1 2
  go_wp2_with fail
  refine (y_mayBeFloat n _ (h.below hbw) hn he).mono ?_
  rintro e w2 ⟨rfl, hb2⟩
  have hz2 := blk_below hz1 hb2
  have hbw2 := hbw.trans (hb2.mono hbw.size)
  clear y0 y1 y2 hz1 hb2 hbw
  have y0 := blk_cell hz2 0
  have y1 := blk_cell hz2 1
  have y2 := blk_cell hz2 2
  go_wp2_with fail
  go_ret
  exact ⟨rfl, hbw2⟩
end Go.Proofs.YtfcnbdhpdpcmgaaDoor
