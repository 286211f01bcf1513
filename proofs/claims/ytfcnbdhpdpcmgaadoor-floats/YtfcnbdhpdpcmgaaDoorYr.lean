import Derived.Test.YtfcnbdhpdpcmgaaDoorYq
namespace Go.Proofs.YtfcnbdhpdpcmgaaDoor
open Go.RowKit
theorem y_simpleOrFloat (n t k : Nat) (w : World) (h : Tabs w) (hf : Fl n t k) : Calls Tryd.prog 80 #[headV 7 t k] w fun e w' => e = .returned (.tuple #[itF n, .int .i64 0]) ∧ Below w.heap.size w w' := by
  have ht : 24 < t := by rcases hf.is with h | h <;> omega
  have b1 : decide ((24 : Int) < (t : Int)) = true := by simp; omega
  go_enter Tryd.func80, Tryd.ntmps80
  go_wp2_with fail
  obtain ⟨hb0, hz0, hr0⟩ := two_alloc w (.cells #[.int .u8 7, .int .u8 t, .int .u64 k] 53) (.cells #[.int .i64 0, .int .u64 0, .string ⟨#[]⟩] 28)
  generalize (w.alloc (.cells #[.int .u8 7, .int .u8 t, .int .u64 k] 53)).alloc (.cells #[.int .i64 0, .int .u64 0, .string ⟨#[]⟩] 28) = W at *
  refine (y_float n t k _ (h.below hb0) hf).mono ?_
  rintro e w1 ⟨rfl, hb1⟩
  have hr1 := blk_below hr0 hb1
  have hbb1 := hb0.trans (hb1.mono hb0.size)
  clear hz0 hr0 hb0 hb1
  have x0 := blk_cell hr1 0
  have x1 := blk_cell hr1 1
  have x2 := blk_cell hr1 2
  have xf := blk_frozen hr1
  go_wp2_with fail
  (try simp only [Exit.inBlock, Exit.then])
  refine bodyPost_ret (results_row_tmp (ty := 28) rfl _ _ (w.heap.size + 1) _ _ _ _ rfl (set3 hr1 _ _ _) rfl rfl rfl) rfl ?_
  exact ⟨rfl, bel_set (bel_set (bel_set hbb1 (Nat.le_succ _) _ _) (Nat.le_succ _) _ _) (Nat.le_succ _) _ _⟩
theorem set3c {w : World} {H : Nat} {a b c : Value} {t : TypeId} (hz : w.heap[H]? = some (.cells #[a, b, c] t)) (z : Value) :
    (w.setCell ⟨H, 2, none⟩ z).heap[H]? = some (.cells #[a, b, z] t) := by
  simp [World.setCell, Array.getElem?_modify, hz]
set_option maxRecDepth 100000 in
theorem y_readHead25 (b1 b2 : UInt8) (w : World) : Calls Tryd.prog 79 #[str [249, b1, b2]] w fun e w' => e = .returned (.tuple #[headV 7 25 (Sg.num [b1, b2]), str [], .int .i64 0]) ∧ Below w.heap.size w w' := by
  have g0 : ∀ h, (((⟨#[249, b1, b2]⟩ : ByteArray)[0]'h).toNat : Int) = 249 := fun _ => rfl
  go_enter Tryd.func79, Tryd.ntmps79
  go_wp2_with fail
  go_region
  go_upto_region 6 with fail
  obtain ⟨hb1, hr1, hh1⟩ := two_alloc w (.cells #[.int .u8 0, .int .u8 0, .int .u64 0] 53) (.cells #[.int .u8 7, .int .u8 25, .int .u64 0] 53)
  replace hb1 := hb1.drew
  replace hr1 : ((w.alloc (.cells #[.int .u8 0, .int .u8 0, .int .u64 0] 53)).alloc (.cells #[.int .u8 7, .int .u8 25, .int .u64 0] 53)).drew.heap[w.heap.size]? = _ := hr1
  replace hh1 : ((w.alloc (.cells #[.int .u8 0, .int .u8 0, .int .u64 0] 53)).alloc (.cells #[.int .u8 7, .int .u8 25, .int .u64 0] 53)).drew.heap[w.heap.size + 1]? = _ := hh1
  generalize ((w.alloc (.cells #[.int .u8 0, .int .u8 0, .int .u64 0] 53)).alloc (.cells #[.int .u8 7, .int .u8 25, .int .u64 0] 53)).drew = w1 at *
  have y0 : ∀ d os, (Sort.grow (redrawn w1 d) os).cell? ⟨w.heap.size + 1, 0, none⟩ = some (.int .u8 7) := cell_regrown (blk_cell hh1 0)
  have y1 : ∀ d os, (Sort.grow (redrawn w1 d) os).cell? ⟨w.heap.size + 1, 1, none⟩ = some (.int .u8 25) := cell_regrown (blk_cell hh1 1)
  have y2 : ∀ d os, (Sort.grow (redrawn w1 d) os).cell? ⟨w.heap.size + 1, 2, none⟩ = some (.int .u64 0) := cell_regrown (blk_cell hh1 2)
  refine wp_region_quiet_below (by kernel_rfl) (by kernel_rfl) ?_
  repeat (quiet_step (first | exact Calls.regrown_of (same_below (y_size25 _))))
  refine wpQuiet_nil ?_
  intro _ hw'
  obtain ⟨⟨dq, osq⟩, hw''⟩ := hw'
  subst hw''
  have hb2 := below_regrown w1 dq osq
  have hr2 := blk_below hr1 hb2
  have hh2 := blk_below hh1 hb2
  have hbb2 := hb1.trans (hb2.mono hb1.size)
  generalize Sort.grow (redrawn w1 dq) osq = w2 at *
  clear y0 y1 y2 hr1 hh1 hb1 hb2
  have y0 := blk_cell hh2 0
  have y1 := blk_cell hh2 1
  have y2 := blk_cell hh2 2
  have yf := blk_frozen hh2
  go_wp2_with fail
  have e1 : (⟨#[249, b1, b2]⟩ : ByteArray).extract 1 3 = ⟨#[b1, b2]⟩ := by apply ByteArray.ext; simp [ByteArray.data_extract]
  have e2 : (⟨#[b1, b2]⟩ : ByteArray).extract 0 2 = ⟨#[b1, b2]⟩ := by apply ByteArray.ext; simp [ByteArray.data_extract]
  rw [e1, e2]
  clear e1 e2 y0 y1 y2 yf
  have hh3 := set3c hh2 (.int .u64 25)
  have hr3 := (heap_set_far (w := w2) (o := 2) (x := .int .u64 25) (show w.heap.size + 1 ≠ w.heap.size by omega)).trans hr2
  have hb3 := bel_set hbb2 (Nat.le_succ _) 2 (.int .u64 25)
  generalize w2.setCell ⟨w.heap.size + 1, 2, none⟩ (.int .u64 25) = w3 at *
  clear hh2 hr2 hbb2
  refine (y_numberOf [b1, b2] w3 (by simp)).mono ?_
  rintro e w4 ⟨rfl, hb4⟩
  have hh4 := blk_below hh3 hb4
  have hr4 := blk_below hr3 hb4
  have hbb4 := hb3.trans (hb4.mono hb3.size)
  clear hh3 hr3 hb3 hb4
  have y0 := blk_cell hh4 0
  have y1 := blk_cell hh4 1
  have y2 := blk_cell hh4 2
  have yf := blk_frozen hh4
  go_upto_region 12 with fail
  have hh5 := set3c hh4 (.int .u64 (Sg.num [b1, b2]))
  have hr5 := (heap_set_far (w := w4) (o := 2) (x := .int .u64 (Sg.num [b1, b2])) (show w.heap.size + 1 ≠ w.heap.size by omega)).trans hr4
  have hb5 := bel_set hbb4 (Nat.le_succ _) 2 (.int .u64 (Sg.num [b1, b2]))
  generalize w4.setCell ⟨w.heap.size + 1, 2, none⟩ (.int .u64 (Sg.num [b1, b2])) = w5 at *
  clear y0 y1 y2 yf hh4 hr4 hbb4
  have y0 := blk_cell hh5 0
  have y1 := blk_cell hh5 1
  have y2 := blk_cell hh5 2
  have x0 := blk_cell hr5 0
  have x1 := blk_cell hr5 1
  have x2 := blk_cell hr5 2
  have xf := blk_frozen hr5
  go_region
  all_goals go_wp2_with fail
  all_goals (try simp only [Exit.inBlock, Exit.then])
  all_goals refine bodyPost_ret (results_row_tmp2 (ty := 53) rfl _ _ w.heap.size _ _ _ _ rfl (set3 hr5 _ _ _) rfl rfl rfl) rfl ?_
  all_goals exact ⟨rfl, (bel_set (bel_set (bel_set hb5 (Nat.le_refl _) _ _) (Nat.le_refl _) _ _) (Nat.le_refl _) _ _).drew⟩
set_option maxRecDepth 100000 in
theorem y_readHead26 (b1 b2 b3 b4 : UInt8) (w : World) : Calls Tryd.prog 79 #[str [250, b1, b2, b3, b4]] w fun e w' => e = .returned (.tuple #[headV 7 26 (Sg.num [b1, b2, b3, b4]), str [], .int .i64 0]) ∧ Below w.heap.size w w' := by
  have g0 : ∀ h, (((⟨#[250, b1, b2, b3, b4]⟩ : ByteArray)[0]'h).toNat : Int) = 250 := fun _ => rfl
  go_enter Tryd.func79, Tryd.ntmps79
  go_wp2_with fail
  go_region
  go_upto_region 6 with fail
  obtain ⟨hb1, hr1, hh1⟩ := two_alloc w (.cells #[.int .u8 0, .int .u8 0, .int .u64 0] 53) (.cells #[.int .u8 7, .int .u8 26, .int .u64 0] 53)
  replace hb1 := hb1.drew
  replace hr1 : ((w.alloc (.cells #[.int .u8 0, .int .u8 0, .int .u64 0] 53)).alloc (.cells #[.int .u8 7, .int .u8 26, .int .u64 0] 53)).drew.heap[w.heap.size]? = _ := hr1
  replace hh1 : ((w.alloc (.cells #[.int .u8 0, .int .u8 0, .int .u64 0] 53)).alloc (.cells #[.int .u8 7, .int .u8 26, .int .u64 0] 53)).drew.heap[w.heap.size + 1]? = _ := hh1
  generalize ((w.alloc (.cells #[.int .u8 0, .int .u8 0, .int .u64 0] 53)).alloc (.cells #[.int .u8 7, .int .u8 26, .int .u64 0] 53)).drew = w1 at *
  have y0 : ∀ d os, (Sort.grow (redrawn w1 d) os).cell? ⟨w.heap.size + 1, 0, none⟩ = some (.int .u8 7) := cell_regrown (blk_cell hh1 0)
  have y1 : ∀ d os, (Sort.grow (redrawn w1 d) os).cell? ⟨w.heap.size + 1, 1, none⟩ = some (.int .u8 26) := cell_regrown (blk_cell hh1 1)
  have y2 : ∀ d os, (Sort.grow (redrawn w1 d) os).cell? ⟨w.heap.size + 1, 2, none⟩ = some (.int .u64 0) := cell_regrown (blk_cell hh1 2)
  refine wp_region_quiet_below (by kernel_rfl) (by kernel_rfl) ?_
  repeat (quiet_step (first | exact Calls.regrown_of (same_below (y_size26 _))))
  refine wpQuiet_nil ?_
  intro _ hw'
  obtain ⟨⟨dq, osq⟩, hw''⟩ := hw'
  subst hw''
  have hb2 := below_regrown w1 dq osq
  have hr2 := blk_below hr1 hb2
  have hh2 := blk_below hh1 hb2
  have hbb2 := hb1.trans (hb2.mono hb1.size)
  generalize Sort.grow (redrawn w1 dq) osq = w2 at *
  clear y0 y1 y2 hr1 hh1 hb1 hb2
  have y0 := blk_cell hh2 0
  have y1 := blk_cell hh2 1
  have y2 := blk_cell hh2 2
  have yf := blk_frozen hh2
  go_wp2_with fail
  have e1 : (⟨#[250, b1, b2, b3, b4]⟩ : ByteArray).extract 1 5 = ⟨#[b1, b2, b3, b4]⟩ := by apply ByteArray.ext; simp [ByteArray.data_extract]
  have e2 : (⟨#[b1, b2, b3, b4]⟩ : ByteArray).extract 0 4 = ⟨#[b1, b2, b3, b4]⟩ := by apply ByteArray.ext; simp [ByteArray.data_extract]
  rw [e1, e2]
  clear e1 e2 y0 y1 y2 yf
  have hh3 := set3c hh2 (.int .u64 26)
  have hr3 := (heap_set_far (w := w2) (o := 2) (x := .int .u64 26) (show w.heap.size + 1 ≠ w.heap.size by omega)).trans hr2
  have hb3 := bel_set hbb2 (Nat.le_succ _) 2 (.int .u64 26)
  generalize w2.setCell ⟨w.heap.size + 1, 2, none⟩ (.int .u64 26) = w3 at *
  clear hh2 hr2 hbb2
  refine (y_numberOf [b1, b2, b3, b4] w3 (by simp)).mono ?_
  rintro e w4 ⟨rfl, hb4⟩
  have hh4 := blk_below hh3 hb4
  have hr4 := blk_below hr3 hb4
  have hbb4 := hb3.trans (hb4.mono hb3.size)
  clear hh3 hr3 hb3 hb4
  have y0 := blk_cell hh4 0
  have y1 := blk_cell hh4 1
  have y2 := blk_cell hh4 2
  have yf := blk_frozen hh4
  go_upto_region 12 with fail
  have hh5 := set3c hh4 (.int .u64 (Sg.num [b1, b2, b3, b4]))
  have hr5 := (heap_set_far (w := w4) (o := 2) (x := .int .u64 (Sg.num [b1, b2, b3, b4])) (show w.heap.size + 1 ≠ w.heap.size by omega)).trans hr4
  have hb5 := bel_set hbb4 (Nat.le_succ _) 2 (.int .u64 (Sg.num [b1, b2, b3, b4]))
  generalize w4.setCell ⟨w.heap.size + 1, 2, none⟩ (.int .u64 (Sg.num [b1, b2, b3, b4])) = w5 at *
  clear y0 y1 y2 yf hh4 hr4 hbb4
  have y0 := blk_cell hh5 0
  have y1 := blk_cell hh5 1
  have y2 := blk_cell hh5 2
  have x0 := blk_cell hr5 0
  have x1 := blk_cell hr5 1
  have x2 := blk_cell hr5 2
  have xf := blk_frozen hr5
  go_region
  all_goals go_wp2_with fail
  all_goals (try simp only [Exit.inBlock, Exit.then])
  all_goals refine bodyPost_ret (results_row_tmp2 (ty := 53) rfl _ _ w.heap.size _ _ _ _ rfl (set3 hr5 _ _ _) rfl rfl rfl) rfl ?_
  all_goals exact ⟨rfl, (bel_set (bel_set (bel_set hb5 (Nat.le_refl _) _ _) (Nat.le_refl _) _ _) (Nat.le_refl _) _ _).drew⟩
end Go.Proofs.YtfcnbdhpdpcmgaaDoor
