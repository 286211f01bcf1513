import Derived.Test.YtfcnbdhpdpcmgaaDoorYr
namespace Go.Proofs.YtfcnbdhpdpcmgaaDoor
open Go.RowKit
theorem y_tEmpty0 (pb : Nat) (c : Value) (w : World) (hz : w.heap[pb]? = some (.cells #[.string ByteArray.empty, c] 58)) : Calls Tryd.prog 77 #[.pointer (some ⟨pb, 0, none⟩)] w fun e w' => e = .returned (.bool true) ∧ w' = w := by
  have y0 := blk_cell hz 0
  go_enter Tryd.func77, Tryd.ntmps77
  go_wp2_with fail
  go_ret
  exact ⟨rfl, rfl⟩
theorem y_tEmpty (pb : Nat) (x : UInt8) (l : List UInt8) (c : Value) (w : World) (hz : w.heap[pb]? = some (.cells #[str (x :: l), c] 58)) : Calls Tryd.prog 77 #[.pointer (some ⟨pb, 0, none⟩)] w fun e w' => e = .returned (.bool false) ∧ w' = w := by
  have y0 := blk_cell hz 0
  go_enter Tryd.func77, Tryd.ntmps77
  go_wp2_with fail
  go_ret
  exact ⟨rfl, rfl⟩
set_option maxRecDepth 100000 in
theorem y_tNext25 (pb n : Nat) (b1 b2 : UInt8) (w : World) (h : Tabs w) (hf : Fl n 25 (Sg.num [b1, b2])) (hpb : 3 ≤ pb)
    (hz : w.heap[pb]? = some (.cells #[str [249, b1, b2], .int .i64 0] 58)) :
    Calls Tryd.prog 78 #[.pointer (some ⟨pb, 0, none⟩), .int .i64 1] w fun e w' => e = .returned (.tuple #[itF n, .int .i64 0]) ∧ Gr pb w w' ∧ w'.heap[pb]? = some (.cells #[str [], .int .i64 1] 58) := by
  have hlp := blk_lt hz
  go_enter Tryd.func78, Tryd.ntmps78
  go_wp2_with fail
  have hr1 := blk_new w (.cells #[.int .i64 0, .int .u64 0, .string ⟨#[]⟩] 28)
  have hb1 : Below w.heap.size w (w.alloc (.cells #[.int .i64 0, .int .u64 0, .string ⟨#[]⟩] 28)) := (Below.refl _ _).alloc (Nat.le_refl _) _
  generalize w.alloc (.cells #[.int .i64 0, .int .u64 0, .string ⟨#[]⟩] 28) = w1 at *
  have hz1 := blk_below hz hb1
  have g1 : Gr pb w w1 := Gr.below hb1
  clear hz hb1
  refine (y_tEmpty pb 249 [b1, b2] _ _ hz1).mono ?_
  rintro e w2 ⟨rfl, rfl⟩
  have y0 := blk_cell hz1 0
  have y1 := blk_cell hz1 1
  have yf := blk_frozen hz1
  go_wp2_with fail
  have hz3 := set2b hz1 (.int .i64 1)
  have hr3 := (heap_set_far (w := w2) (p := pb) (o := 1) (x := .int .i64 1) (by omega)).trans hr1
  have g3 : Gr pb w (w2.setCell ⟨pb, 1, none⟩ (.int .i64 1)) := g1.trans Gr.set
  generalize w2.setCell ⟨pb, 1, none⟩ (.int .i64 1) = w3 at *
  clear y0 y1 yf hz1 hr1 g1
  refine (y_readHead25 b1 b2 _).mono ?_
  rintro e w4 ⟨rfl, hb4⟩
  have hz4 := blk_below hz3 hb4
  have hr4 := blk_below hr3 hb4
  have g4 := g3.trans (Gr.below hb4)
  clear hz3 hr3 g3 hb4
  go_upto_region 9 with fail
  have hb5 : Below w4.heap.size w4 (w4.alloc (.cells #[.int .u8 7, .int .u8 25, .int .u64 (Sg.num [b1, b2])] 53)) := (Below.refl _ _).alloc (Nat.le_refl _) _
  have hh5 := blk_new w4 (.cells #[.int .u8 7, .int .u8 25, .int .u64 (Sg.num [b1, b2])] 53)
  generalize w4.alloc (.cells #[.int .u8 7, .int .u8 25, .int .u64 (Sg.num [b1, b2])] 53) = w5 at *
  have hz5 := blk_below hz4 hb5
  have hr5 := blk_below hr4 hb5
  have g5 := g4.trans (Gr.below hb5)
  have hl4 := blk_lt hz4
  have hs4 := g4.size
  clear hz4 hr4 hb5
  have y0 := blk_cell hz5 0
  have y1 := blk_cell hz5 1
  have yf := blk_frozen hz5
  go_upto_region 12 with fail
  have hz6 := set2a hz5 (str [])
  have hr6 := (heap_set_far (w := w5) (p := pb) (o := 0) (x := str []) (by omega)).trans hr5
  have hh6 := (heap_set_far (w := w5) (p := pb) (o := 0) (x := str []) (by omega)).trans hh5
  have g6 : Gr pb w (w5.setCell ⟨pb, 0, none⟩ (str [])) := g5.trans Gr.set
  generalize w5.setCell ⟨pb, 0, none⟩ (str []) = w6 at *
  clear y0 y1 yf hz5 hr5 hh5 g5
  have y0 := blk_cell hh6 0
  have y1 := blk_cell hh6 1
  have y2 := blk_cell hh6 2
  go_wp2_with fail
  refine (y_simpleOrFloat n 25 (Sg.num [b1, b2]) _ (h.gr g6 hpb) hf).mono ?_
  rintro e w7 ⟨rfl, hb7⟩
  have hz7 := blk_below hz6 hb7
  have hr7 := blk_below hr6 hb7
  have g7 := g6.trans (Gr.below hb7)
  clear y0 y1 y2 hz6 hr6 hh6 g6 hb7
  have x0 := blk_cell hr7 0
  have x1 := blk_cell hr7 1
  have x2 := blk_cell hr7 2
  have xf := blk_frozen hr7
  go_wp2_with fail
  (try simp only [Exit.inBlock, Exit.then])
  refine bodyPost_ret (results_row_tmp (ty := 28) rfl _ _ w.heap.size _ _ _ _ rfl (set3 hr7 _ _ _) rfl rfl rfl) rfl ?_
  refine ⟨rfl, ((g7.far (Nat.le_refl _)).far (Nat.le_refl _)).far (Nat.le_refl _), ?_⟩
  exact (heap_set_far (by omega)).trans ((heap_set_far (by omega)).trans ((heap_set_far (by omega)).trans hz7))
set_option maxRecDepth 100000 in
theorem y_tNext26 (pb n : Nat) (b1 b2 b3 b4 : UInt8) (w : World) (h : Tabs w) (hf : Fl n 26 (Sg.num [b1, b2, b3, b4])) (hpb : 3 ≤ pb)
    (hz : w.heap[pb]? = some (.cells #[str [250, b1, b2, b3, b4], .int .i64 0] 58)) :
    Calls Tryd.prog 78 #[.pointer (some ⟨pb, 0, none⟩), .int .i64 1] w fun e w' => e = .returned (.tuple #[itF n, .int .i64 0]) ∧ Gr pb w w' ∧ w'.heap[pb]? = some (.cells #[str [], .int .i64 1] 58) := by
  have hlp := blk_lt hz
  go_enter Tryd.func78, Tryd.ntmps78
  go_wp2_with fail
  have hr1 := blk_new w (.cells #[.int .i64 0, .int .u64 0, .string ⟨#[]⟩] 28)
  have hb1 : Below w.heap.size w (w.alloc (.cells #[.int .i64 0, .int .u64 0, .string ⟨#[]⟩] 28)) := (Below.refl _ _).alloc (Nat.le_refl _) _
  generalize w.alloc (.cells #[.int .i64 0, .int .u64 0, .string ⟨#[]⟩] 28) = w1 at *
  have hz1 := blk_below hz hb1
  have g1 : Gr pb w w1 := Gr.below hb1
  clear hz hb1
  refine (y_tEmpty pb 250 [b1, b2, b3, b4] _ _ hz1).mono ?_
  rintro e w2 ⟨rfl, rfl⟩
  have y0 := blk_cell hz1 0
  have y1 := blk_cell hz1 1
  have yf := blk_frozen hz1
  go_wp2_with fail
  have hz3 := set2b hz1 (.int .i64 1)
  have hr3 := (heap_set_far (w := w2) (p := pb) (o := 1) (x := .int .i64 1) (by omega)).trans hr1
  have g3 : Gr pb w (w2.setCell ⟨pb, 1, none⟩ (.int .i64 1)) := g1.trans Gr.set
  generalize w2.setCell ⟨pb, 1, none⟩ (.int .i64 1) = w3 at *
  clear y0 y1 yf hz1 hr1 g1
  refine (y_readHead26 b1 b2 b3 b4 _).mono ?_
  rintro e w4 ⟨rfl, hb4⟩
  have hz4 := blk_below hz3 hb4
  have hr4 := blk_below hr3 hb4
  have g4 := g3.trans (Gr.below hb4)
  clear hz3 hr3 g3 hb4
  go_upto_region 9 with fail
  have hb5 : Below w4.heap.size w4 (w4.alloc (.cells #[.int .u8 7, .int .u8 26, .int .u64 (Sg.num [b1, b2, b3, b4])] 53)) := (Below.refl _ _).alloc (Nat.le_refl _) _
  have hh5 := blk_new w4 (.cells #[.int .u8 7, .int .u8 26, .int .u64 (Sg.num [b1, b2, b3, b4])] 53)
  generalize w4.alloc (.cells #[.int .u8 7, .int .u8 26, .int .u64 (Sg.num [b1, b2, b3, b4])] 53) = w5 at *
  have hz5 := blk_below hz4 hb5
  have hr5 := blk_below hr4 hb5
  have g5 := g4.trans (Gr.below hb5)
  have hl4 := blk_lt hz4
  have hs4 := g4.size
  clear hz4 hr4 hb5
  have y0 := blk_cell hz5 0
  have y1 := blk_cell hz5 1
  have yf := blk_frozen hz5
  go_upto_region 12 with fail
  have hz6 := set2a hz5 (str [])
  have hr6 := (heap_set_far (w := w5) (p := pb) (o := 0) (x := str []) (by omega)).trans hr5
  have hh6 := (heap_set_far (w := w5) (p := pb) (o := 0) (x := str []) (by omega)).trans hh5
  have g6 : Gr pb w (w5.setCell ⟨pb, 0, none⟩ (str [])) := g5.trans Gr.set
  generalize w5.setCell ⟨pb, 0, none⟩ (str []) = w6 at *
  clear y0 y1 yf hz5 hr5 hh5 g5
  have y0 := blk_cell hh6 0
  have y1 := blk_cell hh6 1
  have y2 := blk_cell hh6 2
  go_wp2_with fail
  refine (y_simpleOrFloat n 26 (Sg.num [b1, b2, b3, b4]) _ (h.gr g6 hpb) hf).mono ?_
  rintro e w7 ⟨rfl, hb7⟩
  have hz7 := blk_below hz6 hb7
  have hr7 := blk_below hr6 hb7
  have g7 := g6.trans (Gr.below hb7)
  clear y0 y1 y2 hz6 hr6 hh6 g6 hb7
  have x0 := blk_cell hr7 0
  have x1 := blk_cell hr7 1
  have x2 := blk_cell hr7 2
  have xf := blk_frozen hr7
  go_wp2_with fail
  (try simp only [Exit.inBlock, Exit.then])
  refine bodyPost_ret (results_row_tmp (ty := 28) rfl _ _ w.heap.size _ _ _ _ rfl (set3 hr7 _ _ _) rfl rfl rfl) rfl ?_
  refine ⟨rfl, ((g7.far (Nat.le_refl _)).far (Nat.le_refl _)).far (Nat.le_refl _), ?_⟩
  exact (heap_set_far (by omega)).trans ((heap_set_far (by omega)).trans ((heap_set_far (by omega)).trans hz7))
end Go.Proofs.YtfcnbdhpdpcmgaaDoor
