import Derived.Test.YtfcnbdhpdpcmgaaDoorYp
namespace Go.Proofs.YtfcnbdhpdpcmgaaDoor
open Go.RowKit
theorem hd_block (w : World) (t k : Nat) : Below w.heap.size w (w.alloc (.cells #[.int .u8 7, .int .u8 t, .int .u64 k] 53)) ∧ (w.alloc (.cells #[.int .u8 7, .int .u8 t, .int .u64 k] 53)).heap[w.heap.size]? = some (.cells #[.int .u8 7, .int .u8 t, .int .u64 k] 53) :=
  ⟨(Below.refl _ _).alloc (Nat.le_refl _) _, blk_new _ _⟩
theorem y_floatOf25 (k : Nat) (w : World) (h : Tabs w) (hk : k < 65536) : Calls Tryd.prog 86 #[headV 7 25 k] w fun e w' => e = .returned (.int .u64 (Sg.widened 5 10 k)) ∧ Below w.heap.size w w' := by
  go_enter Tryd.func86, Tryd.ntmps86
  go_wp2_with fail
  obtain ⟨hb0, hz0⟩ := hd_block w 25 k
  generalize w.alloc (.cells #[.int .u8 7, .int .u8 25, .int .u64 k] 53) = W at *
  have h1 := h.below hb0
  obtain ⟨_, _, _, n0, n1, n2, n3⟩ := id h1
  have q0 : IntKind.u8.wrap 0 = 0 := by decide
  have q1 : IntKind.u8.wrap 1 = 1 := by decide
  have k0 := cell_regrown n0
  have k1 := cell_regrown n1
  have k2 := cell_regrown n2
  have k3 := cell_regrown n3
  have y0 : ∀ d os, (Sort.grow (redrawn W d) os).cell? ⟨w.heap.size, 0, none⟩ = some (.int .u8 7) := cell_regrown (blk_cell hz0 0)
  have y1 : ∀ d os, (Sort.grow (redrawn W d) os).cell? ⟨w.heap.size, 1, none⟩ = some (.int .u8 25) := cell_regrown (blk_cell hz0 1)
  have y2 : ∀ d os, (Sort.grow (redrawn W d) os).cell? ⟨w.heap.size, 2, none⟩ = some (.int .u64 k) := cell_regrown (blk_cell hz0 2)
  refine wp_region_quiet_below (by kernel_rfl) (by kernel_rfl) ?_
  repeat (quiet_step (first | exact Calls.regrown_of (y_widened5 k _ (h1.below (below_regrown W _ _)) hk)))
  refine wpQuiet_nil ?_
  intro _ hw'
  obtain ⟨⟨dq, osq⟩, hw''⟩ := hw'
  subst hw''
  go_wp2_with fail
  go_ret
  exact ⟨rfl, hb0.trans ((below_regrown W dq osq).mono hb0.size)⟩
theorem y_floatOf26 (k : Nat) (w : World) (h : Tabs w) (hk : k < 4294967296) : Calls Tryd.prog 86 #[headV 7 26 k] w fun e w' => e = .returned (.int .u64 (Sg.widened 8 23 k)) ∧ Below w.heap.size w w' := by
  go_enter Tryd.func86, Tryd.ntmps86
  go_wp2_with fail
  obtain ⟨hb0, hz0⟩ := hd_block w 26 k
  generalize w.alloc (.cells #[.int .u8 7, .int .u8 26, .int .u64 k] 53) = W at *
  have h1 := h.below hb0
  obtain ⟨_, _, _, n0, n1, n2, n3⟩ := id h1
  have q0 : IntKind.u8.wrap 0 = 0 := by decide
  have q1 : IntKind.u8.wrap 1 = 1 := by decide
  have k0 := cell_regrown n0
  have k1 := cell_regrown n1
  have k2 := cell_regrown n2
  have k3 := cell_regrown n3
  have y0 : ∀ d os, (Sort.grow (redrawn W d) os).cell? ⟨w.heap.size, 0, none⟩ = some (.int .u8 7) := cell_regrown (blk_cell hz0 0)
  have y1 : ∀ d os, (Sort.grow (redrawn W d) os).cell? ⟨w.heap.size, 1, none⟩ = some (.int .u8 26) := cell_regrown (blk_cell hz0 1)
  have y2 : ∀ d os, (Sort.grow (redrawn W d) os).cell? ⟨w.heap.size, 2, none⟩ = some (.int .u64 k) := cell_regrown (blk_cell hz0 2)
  refine wp_region_quiet_below (by kernel_rfl) (by kernel_rfl) ?_
  repeat (quiet_step (first | exact Calls.regrown_of (y_widened8 k _ (h1.below (below_regrown W _ _)) hk)))
  refine wpQuiet_nil ?_
  intro _ hw'
  obtain ⟨⟨dq, osq⟩, hw''⟩ := hw'
  subst hw''
  go_wp2_with fail
  go_ret
  exact ⟨rfl, hb0.trans ((below_regrown W dq osq).mono hb0.size)⟩
theorem y_floatOf (n t k : Nat) (w : World) (h : Tabs w) (hf : Fl n t k) : Calls Tryd.prog 86 #[headV 7 t k] w fun e w' => e = .returned (.int .u64 n) ∧ Below w.heap.size w w' := by
  obtain ⟨hn, _, _, ⟨rfl, hp⟩ | ⟨rfl, _, hp⟩⟩ := hf
  · obtain ⟨hw, s, x, m, hs, hx, hm, rfl, _⟩ := Sg.widened_packed_16 n k (by omega) hp
    have := y_floatOf25 (s * 32768 + x * 1024 + m) w h (by omega)
    rwa [hw] at this
  · obtain ⟨hw, s, x, m, hs, hx, hm, rfl, _⟩ := Sg.widened_packed_32 n k (by omega) hp
    have := y_floatOf26 (s * 2147483648 + x * 8388608 + m) w h (by omega)
    rwa [hw] at this
theorem y_float (n t k : Nat) (w : World) (h : Tabs w) (hf : Fl n t k) : Calls Tryd.prog 85 #[headV 7 t k] w fun e w' => e = .returned (.tuple #[itF n, .int .i64 0]) ∧ Below w.heap.size w w' := by
  go_enter Tryd.func85, Tryd.ntmps85
  go_wp2_with fail
  obtain ⟨hb0, hz0, hr0⟩ := two_alloc w (.cells #[.int .u8 7, .int .u8 t, .int .u64 k] 53) (.cells #[.int .i64 0, .int .u64 0, .string ⟨#[]⟩] 28)
  generalize (w.alloc (.cells #[.int .u8 7, .int .u8 t, .int .u64 k] 53)).alloc (.cells #[.int .i64 0, .int .u64 0, .string ⟨#[]⟩] 28) = W at *
  refine (y_floatOf n t k _ (h.below hb0) hf).mono ?_
  rintro e w1 ⟨rfl, hb1⟩
  have hz1 := blk_below hz0 hb1
  have hr1 := blk_below hr0 hb1
  have hbb1 := hb0.trans (hb1.mono hb0.size)
  clear hz0 hr0 hb0 hb1
  have h1 := h.below hbb1
  have y0 : ∀ d os, (Sort.grow (redrawn w1 d) os).cell? ⟨w.heap.size, 0, none⟩ = some (.int .u8 7) := cell_regrown (blk_cell hz1 0)
  have y1 : ∀ d os, (Sort.grow (redrawn w1 d) os).cell? ⟨w.heap.size, 1, none⟩ = some (.int .u8 t) := cell_regrown (blk_cell hz1 1)
  have y2 : ∀ d os, (Sort.grow (redrawn w1 d) os).cell? ⟨w.heap.size, 2, none⟩ = some (.int .u64 k) := cell_regrown (blk_cell hz1 2)
  go_wp2_with fail
  refine wp_region_quiet_below (by kernel_rfl) (by kernel_rfl) ?_
  repeat (quiet_step (first | (go_at_call 74; exact Calls.regrown_of (y_mayBeFloat n _ (h1.below (below_regrown w1 _ _)) hf.lt hf.e2)) | (go_at_call 29; exact Calls.regrown_of (y_floatHead n t k _ (h1.below (below_regrown w1 _ _)) hf))))
  refine wpQuiet_nil ?_
  intro _ hw'
  obtain ⟨⟨dq, osq⟩, hw''⟩ := hw'
  subst hw''
  have hb2 := below_regrown w1 dq osq
  have hr2 := blk_below hr1 hb2
  have hbb2 := hbb1.trans (hb2.mono hbb1.size)
  generalize Sort.grow (redrawn w1 dq) osq = w2 at *
  clear y0 y1 y2 hr1 hz1 hbb1
  have x0 := blk_cell hr2 0
  have x1 := blk_cell hr2 1
  have x2 := blk_cell hr2 2
  have xf := blk_frozen hr2
  go_wp2_with fail
  (try simp only [Exit.inBlock, Exit.then])
  refine bodyPost_ret (results_row_tmp (ty := 28) rfl _ _ (w.heap.size + 1) _ _ _ _ rfl (set3 hr2 _ _ _) rfl rfl rfl) rfl ?_
  exact ⟨rfl, bel_set (bel_set (bel_set hbb2 (Nat.le_succ _) _ _) (Nat.le_succ _) _ _) (Nat.le_succ _) _ _⟩
end Go.Proofs.YtfcnbdhpdpcmgaaDoor
