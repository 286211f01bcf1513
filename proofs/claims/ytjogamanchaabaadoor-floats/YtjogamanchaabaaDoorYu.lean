import Derived.Test.YtjogamanchaabaaDoorYt
namespace Go.Proofs.YtjogamanchaabaaDoor
open Go.RowKit
theorem own_weak {w : World} {base base' n size : Nat} {e : TypeId} {v : Value} {xs : List Value} (h : w.ownsRow base e size v n xs) (hb : base' ≤ base) : w.ownsRow base' e size v n xs := by
  obtain ⟨h1, h2 | ⟨g, cap, cur, h2, h3, h4⟩⟩ := h
  · exact ⟨h1, .inl h2⟩
  · exact ⟨h1, .inr ⟨g, cap, cur, h2, Nat.le_trans hb h3, h4⟩⟩
theorem own_frozen {w : World} {base g cap m size : Nat} {e : TypeId} {xs : List Value} (h : w.ownsRow base e size (.slice (some ⟨g, 0, none⟩) m cap) m xs) (o : Nat) : w.frozen? ⟨g, o, none⟩ = false := by
  obtain ⟨_, hx | ⟨gg, cc, cur, hx, _, hh, _⟩⟩ := h
  · exact absurd hx.1 (by simp)
  · simp only [Value.slice.injEq, Option.some.injEq, Addr.mk.injEq] at hx
    obtain ⟨⟨rfl, _⟩, _⟩ := hx
    exact blk_frozen hh o
theorem y_sclone (w : World) : Calls Tryd.prog 24 #[str []] w fun e w' => e = .returned (str []) ∧ w' = w := by
  go_enter Tryd.func24, Tryd.ntmps24
  go_wp2_with fail
  go_ret
  exact ⟨rfl, rfl⟩
theorem y_clone (w : World) : Calls Tryd.prog 18 #[str []] w fun e w' => e = .returned (str []) ∧ w' = w := by
  go_enter Tryd.func18, Tryd.ntmps18
  go_wp2_with fail
  refine (y_sclone _).mono ?_
  rintro e w1 ⟨rfl, rfl⟩
  go_wp2_with fail
  go_ret
  exact ⟨rfl, rfl⟩
set_option maxRecDepth 100000 in
theorem y_valueOfT25 (pb n : Nat) (b1 b2 : UInt8) (w0 w : World) (h0 : Tabs w0) (hbel : Below w0.heap.size w0 w) (hpb : w0.heap.size ≤ pb) (hf : Fl n 25 (Sg.num [b1, b2]))
    (hz : w.heap[pb]? = some (.cells #[str [249, b1, b2], .int .i64 0] 62)) :
    Calls Tryd.prog 15 #[.iface 60 (.pointer (some ⟨pb, 0, none⟩))] w fun e w' => Below w0.heap.size w0 w' ∧
      ∃ g cap g2 cap2, e = .returned (.tuple #[.agg #[.slice (some ⟨g, 0, none⟩) 1 cap, .slice (some ⟨g2, 0, none⟩) 1 cap2], .int .i64 0]) ∧ w'.ownsRow (w.heap.size + 3) 28 3 (.slice (some ⟨g, 0, none⟩) 1 cap) 1 (itC n) := by
  have hlp := blk_lt hz
  have hle := hbel.size
  go_enter Tryd.func15, Tryd.ntmps15
  go_wp2_with fail
  obtain ⟨hb1, zr1, zv1⟩ := two_alloc w (.cells #[.slice none 0 0, .slice none 0 0] 43) (.cells #[.slice none 0 0, .slice none 0 0] 43)
  have hs1 : ((w.alloc (.cells #[.slice none 0 0, .slice none 0 0] 43)).alloc (.cells #[.slice none 0 0, .slice none 0 0] 43)).heap.size = w.heap.size + 2 := by simp
  generalize (w.alloc (.cells #[.slice none 0 0, .slice none 0 0] 43)).alloc (.cells #[.slice none 0 0, .slice none 0 0] 43) = w1 at *
  have hbb1 := hbel.trans (hb1.mono hbel.size)
  refine (y_takeT25 (w.heap.size + 1) pb n b1 b2 w0 w1 h0 hbb1 hpb (by omega) hf zv1 (blk_below hz hb1)).mono ?_
  rintro e w2 ⟨rfl, gr2, hz2, g, gc, g2, gc2, zv2, own2⟩
  have zr2 := (gr2.block w.heap.size (by omega) (by omega) (by omega)).trans zr1
  have hb2 := gr2.to hbb1 (by omega) hpb (by omega)
  rw [hs1] at own2
  have hs2 := gr2.size
  clear hb1 zr1 zv1 hz gr2 hbb1
  go_wp2_with fail
  refine (y_tEmpty0 pb _ _ hz2).mono ?_
  rintro e w3 ⟨rfl, rfl⟩
  have x0 := blk_cell zv2 0
  have x1 := blk_cell zv2 1
  go_wp2_with fail
  refine (y_isRising _ g gc n _ _ own2).mono ?_
  rintro e w4 ⟨rfl, hb4⟩
  have zv4 := blk_below zv2 hb4
  have zr4 := blk_below zr2 hb4
  have own4 := own_below own2 hb4
  have hbb4 := hb2.trans (hb4.mono hb2.size)
  have hs4 := hb4.size
  clear x0 x1 zv2 zr2 own2 hb2 hz2 hb4
  have x0 := blk_cell zv4 0
  have x1 := blk_cell zv4 1
  go_wp2_with fail
  refine (y_isTaggedWell _ g gc n _ _ own4).mono ?_
  rintro e w5 ⟨rfl, hb5⟩
  have zv5 := blk_below zv4 hb5
  have zr5 := blk_below zr4 hb5
  have own5 := own_below own4 hb5
  have hbb5 := hbb4.trans (hb5.mono hbb4.size)
  have hs5 := hb5.size
  clear x0 x1 zv4 zr4 own4 hbb4 hb5
  have x0 := blk_cell zv5 0
  have x1 := blk_cell zv5 1
  have y0 := blk_cell zr5 0
  have y1 := blk_cell zr5 1
  have yf := blk_frozen zr5
  go_wp2_with fail
  (try simp only [Exit.inBlock, Exit.then])
  refine bodyPost_ret (results_row_tmp (ty := 43) rfl _ _ w.heap.size _ _ _ _ rfl (set2 zr5 _ _) rfl rfl rfl) rfl ?_
  exact ⟨bel_set (bel_set hbb5 hle _ _) hle _ _, g, gc, g2, gc2, rfl, ownsRow_setCell_below (ownsRow_setCell_below own5 (by show w.heap.size < _; omega) _) (by show w.heap.size < _; omega) _⟩
set_option maxRecDepth 100000 in
theorem y_read25 (n : Nat) (b1 b2 : UInt8) (w : World) (h0 : Tabs w) (hf : Fl n 25 (Sg.num [b1, b2])) :
    Calls Tryd.prog 17 #[str [249, b1, b2]] w fun e w' => Below w.heap.size w w' ∧
      ∃ g cap g2 cap2, e = .returned (.tuple #[.agg #[.slice (some ⟨g, 0, none⟩) 1 cap, .slice (some ⟨g2, 0, none⟩) 1 cap2], .int .i64 0]) ∧ w'.ownsRow (w.heap.size + 1) 28 3 (.slice (some ⟨g, 0, none⟩) 1 cap) 1 (itC n) := by
  go_enter Tryd.func17, Tryd.ntmps17
  go_wp2_with fail
  obtain ⟨hb1, zr1, zt1⟩ := two_alloc w (.cells #[.slice none 0 0, .slice none 0 0] 43) (.cells #[str [249, b1, b2], .int .i64 0] 62)
  have hs1 : ((w.alloc (.cells #[.slice none 0 0, .slice none 0 0] 43)).alloc (.cells #[str [249, b1, b2], .int .i64 0] 62)).heap.size = w.heap.size + 2 := by simp
  have hk1 : Below (w.alloc (.cells #[.slice none 0 0, .slice none 0 0] 43)).heap.size (w.alloc (.cells #[.slice none 0 0, .slice none 0 0] 43)) ((w.alloc (.cells #[.slice none 0 0, .slice none 0 0] 43)).alloc (.cells #[str [249, b1, b2], .int .i64 0] 62)) := (Below.refl _ _).alloc (Nat.le_refl _) _
  have hk0 : Below w.heap.size w (w.alloc (.cells #[.slice none 0 0, .slice none 0 0] 43)) := (Below.refl _ _).alloc (Nat.le_refl _) _
  have hs0 : (w.alloc (.cells #[.slice none 0 0, .slice none 0 0] 43)).heap.size = w.heap.size + 1 := by simp
  have zr0 := blk_new w (.cells #[.slice none 0 0, .slice none 0 0] 43)
  generalize (w.alloc (.cells #[.slice none 0 0, .slice none 0 0] 43)).alloc (.cells #[str [249, b1, b2], .int .i64 0] 62) = w1 at *
  generalize w.alloc (.cells #[.slice none 0 0, .slice none 0 0] 43) = w0 at *
  refine (y_valueOfT25 (w.heap.size + 1) n b1 b2 w0 w1 (h0.below hk0) hk1 (by omega) hf zt1).mono ?_
  rintro e w2 ⟨hb2, g, gc, g2, gc2, rfl, own2⟩
  have zr2 := blk_below zr0 hb2
  have hbb2 := hk0.trans (hb2.mono hk0.size)
  rw [hs1] at own2
  clear zr1 zt1 hb1 hk1 hk0 hb2 zr0
  have x0 := blk_cell zr2 0
  have x1 := blk_cell zr2 1
  have xf := blk_frozen zr2
  go_wp2_with fail
  (try simp only [Exit.inBlock, Exit.then])
  refine bodyPost_ret (results_row_tmp (ty := 43) rfl _ _ w.heap.size _ _ _ _ rfl (set2 zr2 _ _) rfl rfl rfl) rfl ?_
  refine ⟨bel_set (bel_set hbb2 (Nat.le_refl _) _ _) (Nat.le_refl _) _ _, g, gc, g2, gc2, rfl, ?_⟩
  have own3 := ownsRow_setCell_below (ownsRow_setCell_below own2 (a := ⟨w.heap.size, 0, none⟩) (by show w.heap.size < _; omega) (.slice (some ⟨g, 0, none⟩) 1 gc)) (a := ⟨w.heap.size, 1, none⟩) (by show w.heap.size < _; omega) (.slice (some ⟨g2, 0, none⟩) 1 gc2)
  exact own_weak own3 (by omega)
set_option maxRecDepth 100000 in
theorem y_Decode25 (n : Nat) (b1 b2 : UInt8) (w : World) (h0 : Tabs w) (hf : Fl n 25 (Sg.num [b1, b2])) :
    Calls Tryd.prog 14 #[str [249, b1, b2]] w fun e w' => Below w.heap.size w w' ∧
      ∃ g cap, e = .returned (.tuple #[.slice (some ⟨g, 0, none⟩) 1 cap, .int .i64 0]) ∧ 1 ≤ cap ∧ w'.cell? ⟨g, 0, none⟩ = some (.int .i64 8) ∧ w'.cell? ⟨g, 1, none⟩ = some (.int .u64 n) ∧ w'.cell? ⟨g, 2, none⟩ = some (str []) := by
  go_enter Tryd.func14, Tryd.ntmps14
  go_wp2_with fail
  refine (y_read25 n b1 b2 w h0 hf).mono ?_
  rintro e w1 ⟨hb1, g, gc, g2, gc2, rfl, own1⟩
  have hs1 := hb1.size
  go_upto_region 2 with fail
  have own2 := own1.alloc (.cells #[.slice (some ⟨g, 0, none⟩) 1 gc, .slice (some ⟨g2, 0, none⟩) 1 gc2] 43)
  have hb2 := hb1.alloc hb1.size (.cells #[.slice (some ⟨g, 0, none⟩) 1 gc, .slice (some ⟨g2, 0, none⟩) 1 gc2] 43)
  have zv2 := blk_new w1 (.cells #[.slice (some ⟨g, 0, none⟩) 1 gc, .slice (some ⟨g2, 0, none⟩) 1 gc2] 43)
  have hg1 := own1.lt g rfl
  generalize w1.alloc (.cells #[.slice (some ⟨g, 0, none⟩) 1 gc, .slice (some ⟨g2, 0, none⟩) 1 gc2] 43) = w2 at *
  have hcap := own_cap own1
  obtain ⟨hl, c0, c1, c2⟩ := own_cells own2
  have hfz := own_frozen own2
  clear own1 own2 hb1
  have y0 := blk_cell zv2 0
  have y1 := blk_cell zv2 1
  go_wp2_with fail
  go_loopw [16] (fun i wx => (i = .int .i64 0 ∨ i = .int .i64 1) ∧ Below w.heap.size w wx ∧ wx.heap[w1.heap.size]? = some (.cells #[.slice (some ⟨g, 0, none⟩) 1 gc, .slice (some ⟨g2, 0, none⟩) 1 gc2] 43) ∧ g < w1.heap.size ∧ wx.cell? ⟨g, 0, none⟩ = some (.int .i64 8) ∧ wx.cell? ⟨g, 1, none⟩ = some (.int .u64 n) ∧ wx.cell? ⟨g, 2, none⟩ = some (str []) ∧ ∀ o, wx.frozen? ⟨g, o, none⟩ = false) (fun i _ => 2 - (intOf i).toNat)
  case atStart => exact ⟨.inl rfl, hb2, zv2, hg1.2, c0, c1, c2, hfz⟩
  case round =>
    clear c0 c1 c2 hfz y0 y1 zv2 hb2
    obtain ⟨hi, hbr, zr, hgl, c0, c1, c2, hfz⟩ := hrel
    have hlr := blk_lt zr
    rcases hi with rfl | rfl
    · go_upto_region 5 with fail
      have hb3 : Below wr.heap.size wr (wr.alloc (.cells #[.int .i64 8, .int .u64 n, str []] 28)) := (Below.refl _ _).alloc (Nat.le_refl _) _
      have zi3 := blk_new wr (.cells #[.int .i64 8, .int .u64 n, str []] 28)
      generalize wr.alloc (.cells #[.int .i64 8, .int .u64 n, str []] 28) = w3 at *
      have zv3 := blk_below zr hb3
      have hbb3 := hbr.trans (hb3.mono hbr.size)
      have d0 := ((bcell hb3).1 g 0 (by omega)).trans c0
      have d1 := ((bcell hb3).1 g 1 (by omega)).trans c1
      have d2 := ((bcell hb3).1 g 2 (by omega)).trans c2
      have df : ∀ o, w3.frozen? ⟨g, o, none⟩ = false := fun o => ((bcell hb3).2 g o (by omega)).trans (hfz o)
      clear c0 c1 c2 hfz zr hbr hb3
      have x0 := blk_cell zv3 0
      have x1 := blk_cell zv3 1
      have z0 := blk_cell zi3 0
      have z1 := blk_cell zi3 1
      have z2 := blk_cell zi3 2
      first
        | go_region_with (first | (go_at_call 18; refine (y_clone _).mono ?_; rintro e w4 ⟨rfl, rfl⟩))
        | skip
      all_goals go_wp2_with fail
      all_goals refine ⟨⟨.inr rfl, (bel_set hbb3 (by omega) _ _).drew, (heap_set_far (by omega)).trans zv3, hgl, ?_, ?_, ?_, ?_⟩, by simp [intOf]⟩
      all_goals first
        | exact (World.cell?_setCell_other _ _ _ _ (by simp)).trans d0
        | exact (World.cell?_setCell_other _ _ _ _ (by simp)).trans d1
        | exact World.cell?_setCell_same _ _ _ d2
        | (intro o; exact (congrFun (congrArg World.frozen? rfl) _).trans ((World.frozen?_setCell _ _ _ _).trans (df o)))
    · have x0 := blk_cell zr 0
      have x1 := blk_cell zr 1
      go_wp2_with fail
      go_ret2
      exact ⟨hbr, g, gc, rfl, hcap, c0, c1, c2⟩
theorem y_Dec25 (n : Nat) (b1 b2 : UInt8) (w : World) (h0 : Tabs w) (hf : Fl n 25 (Sg.num [b1, b2])) :
    Calls Tryd.prog 8 #[str [249, b1, b2]] w fun e w' => Below w.heap.size w w' ∧
      ∃ g cap, e = .returned (.tuple #[.slice (some ⟨g, 0, none⟩) 1 cap, .int .i64 0]) ∧ 1 ≤ cap ∧ w'.cell? ⟨g, 0, none⟩ = some (.int .i64 8) ∧ w'.cell? ⟨g, 1, none⟩ = some (.int .u64 n) ∧ w'.cell? ⟨g, 2, none⟩ = some (str []) := by
  go_enter Tryd.func8, Tryd.ntmps8
  go_wp2_with fail
  refine (y_Decode25 n b1 b2 w h0 hf).mono ?_
  rintro e w1 ⟨hb1, g, gc, rfl, hcap, c0, c1, c2⟩
  go_wp2_with fail
  go_ret2
  exact ⟨hb1, g, gc, rfl, hcap, c0, c1, c2⟩
set_option maxRecDepth 100000 in
theorem y_valueOfT26 (pb n : Nat) (b1 b2 b3 b4 : UInt8) (w0 w : World) (h0 : Tabs w0) (hbel : Below w0.heap.size w0 w) (hpb : w0.heap.size ≤ pb) (hf : Fl n 26 (Sg.num [b1, b2, b3, b4]))
    (hz : w.heap[pb]? = some (.cells #[str [250, b1, b2, b3, b4], .int .i64 0] 62)) :
    Calls Tryd.prog 15 #[.iface 60 (.pointer (some ⟨pb, 0, none⟩))] w fun e w' => Below w0.heap.size w0 w' ∧
      ∃ g cap g2 cap2, e = .returned (.tuple #[.agg #[.slice (some ⟨g, 0, none⟩) 1 cap, .slice (some ⟨g2, 0, none⟩) 1 cap2], .int .i64 0]) ∧ w'.ownsRow (w.heap.size + 3) 28 3 (.slice (some ⟨g, 0, none⟩) 1 cap) 1 (itC n) := by
  have hlp := blk_lt hz
  have hle := hbel.size
  go_enter Tryd.func15, Tryd.ntmps15
  go_wp2_with fail
  obtain ⟨hb1, zr1, zv1⟩ := two_alloc w (.cells #[.slice none 0 0, .slice none 0 0] 43) (.cells #[.slice none 0 0, .slice none 0 0] 43)
  have hs1 : ((w.alloc (.cells #[.slice none 0 0, .slice none 0 0] 43)).alloc (.cells #[.slice none 0 0, .slice none 0 0] 43)).heap.size = w.heap.size + 2 := by simp
  generalize (w.alloc (.cells #[.slice none 0 0, .slice none 0 0] 43)).alloc (.cells #[.slice none 0 0, .slice none 0 0] 43) = w1 at *
  have hbb1 := hbel.trans (hb1.mono hbel.size)
  refine (y_takeT26 (w.heap.size + 1) pb n b1 b2 b3 b4 w0 w1 h0 hbb1 hpb (by omega) hf zv1 (blk_below hz hb1)).mono ?_
  rintro e w2 ⟨rfl, gr2, hz2, g, gc, g2, gc2, zv2, own2⟩
  have zr2 := (gr2.block w.heap.size (by omega) (by omega) (by omega)).trans zr1
  have hb2 := gr2.to hbb1 (by omega) hpb (by omega)
  rw [hs1] at own2
  have hs2 := gr2.size
  clear hb1 zr1 zv1 hz gr2 hbb1
  go_wp2_with fail
  refine (y_tEmpty0 pb _ _ hz2).mono ?_
  rintro e w3 ⟨rfl, rfl⟩
  have x0 := blk_cell zv2 0
  have x1 := blk_cell zv2 1
  go_wp2_with fail
  refine (y_isRising _ g gc n _ _ own2).mono ?_
  rintro e w4 ⟨rfl, hb4⟩
  have zv4 := blk_below zv2 hb4
  have zr4 := blk_below zr2 hb4
  have own4 := own_below own2 hb4
  have hbb4 := hb2.trans (hb4.mono hb2.size)
  have hs4 := hb4.size
  clear x0 x1 zv2 zr2 own2 hb2 hz2 hb4
  have x0 := blk_cell zv4 0
  have x1 := blk_cell zv4 1
  go_wp2_with fail
  refine (y_isTaggedWell _ g gc n _ _ own4).mono ?_
  rintro e w5 ⟨rfl, hb5⟩
  have zv5 := blk_below zv4 hb5
  have zr5 := blk_below zr4 hb5
  have own5 := own_below own4 hb5
  have hbb5 := hbb4.trans (hb5.mono hbb4.size)
  have hs5 := hb5.size
  clear x0 x1 zv4 zr4 own4 hbb4 hb5
  have x0 := blk_cell zv5 0
  have x1 := blk_cell zv5 1
  have y0 := blk_cell zr5 0
  have y1 := blk_cell zr5 1
  have yf := blk_frozen zr5
  go_wp2_with fail
  (try simp only [Exit.inBlock, Exit.then])
  refine bodyPost_ret (results_row_tmp (ty := 43) rfl _ _ w.heap.size _ _ _ _ rfl (set2 zr5 _ _) rfl rfl rfl) rfl ?_
  exact ⟨bel_set (bel_set hbb5 hle _ _) hle _ _, g, gc, g2, gc2, rfl, ownsRow_setCell_below (ownsRow_setCell_below own5 (by show w.heap.size < _; omega) _) (by show w.heap.size < _; omega) _⟩
set_option maxRecDepth 100000 in
theorem y_read26 (n : Nat) (b1 b2 b3 b4 : UInt8) (w : World) (h0 : Tabs w) (hf : Fl n 26 (Sg.num [b1, b2, b3, b4])) :
    Calls Tryd.prog 17 #[str [250, b1, b2, b3, b4]] w fun e w' => Below w.heap.size w w' ∧
      ∃ g cap g2 cap2, e = .returned (.tuple #[.agg #[.slice (some ⟨g, 0, none⟩) 1 cap, .slice (some ⟨g2, 0, none⟩) 1 cap2], .int .i64 0]) ∧ w'.ownsRow (w.heap.size + 1) 28 3 (.slice (some ⟨g, 0, none⟩) 1 cap) 1 (itC n) := by
  go_enter Tryd.func17, Tryd.ntmps17
  go_wp2_with fail
  obtain ⟨hb1, zr1, zt1⟩ := two_alloc w (.cells #[.slice none 0 0, .slice none 0 0] 43) (.cells #[str [250, b1, b2, b3, b4], .int .i64 0] 62)
  have hs1 : ((w.alloc (.cells #[.slice none 0 0, .slice none 0 0] 43)).alloc (.cells #[str [250, b1, b2, b3, b4], .int .i64 0] 62)).heap.size = w.heap.size + 2 := by simp
  have hk1 : Below (w.alloc (.cells #[.slice none 0 0, .slice none 0 0] 43)).heap.size (w.alloc (.cells #[.slice none 0 0, .slice none 0 0] 43)) ((w.alloc (.cells #[.slice none 0 0, .slice none 0 0] 43)).alloc (.cells #[str [250, b1, b2, b3, b4], .int .i64 0] 62)) := (Below.refl _ _).alloc (Nat.le_refl _) _
  have hk0 : Below w.heap.size w (w.alloc (.cells #[.slice none 0 0, .slice none 0 0] 43)) := (Below.refl _ _).alloc (Nat.le_refl _) _
  have hs0 : (w.alloc (.cells #[.slice none 0 0, .slice none 0 0] 43)).heap.size = w.heap.size + 1 := by simp
  have zr0 := blk_new w (.cells #[.slice none 0 0, .slice none 0 0] 43)
  generalize (w.alloc (.cells #[.slice none 0 0, .slice none 0 0] 43)).alloc (.cells #[str [250, b1, b2, b3, b4], .int .i64 0] 62) = w1 at *
  generalize w.alloc (.cells #[.slice none 0 0, .slice none 0 0] 43) = w0 at *
  refine (y_valueOfT26 (w.heap.size + 1) n b1 b2 b3 b4 w0 w1 (h0.below hk0) hk1 (by omega) hf zt1).mono ?_
  rintro e w2 ⟨hb2, g, gc, g2, gc2, rfl, own2⟩
  have zr2 := blk_below zr0 hb2
  have hbb2 := hk0.trans (hb2.mono hk0.size)
  rw [hs1] at own2
  clear zr1 zt1 hb1 hk1 hk0 hb2 zr0
  have x0 := blk_cell zr2 0
  have x1 := blk_cell zr2 1
  have xf := blk_frozen zr2
  go_wp2_with fail
  (try simp only [Exit.inBlock, Exit.then])
  refine bodyPost_ret (results_row_tmp (ty := 43) rfl _ _ w.heap.size _ _ _ _ rfl (set2 zr2 _ _) rfl rfl rfl) rfl ?_
  refine ⟨bel_set (bel_set hbb2 (Nat.le_refl _) _ _) (Nat.le_refl _) _ _, g, gc, g2, gc2, rfl, ?_⟩
  have own3 := ownsRow_setCell_below (ownsRow_setCell_below own2 (a := ⟨w.heap.size, 0, none⟩) (by show w.heap.size < _; omega) (.slice (some ⟨g, 0, none⟩) 1 gc)) (a := ⟨w.heap.size, 1, none⟩) (by show w.heap.size < _; omega) (.slice (some ⟨g2, 0, none⟩) 1 gc2)
  exact own_weak own3 (by omega)
set_option maxRecDepth 100000 in
theorem y_Decode26 (n : Nat) (b1 b2 b3 b4 : UInt8) (w : World) (h0 : Tabs w) (hf : Fl n 26 (Sg.num [b1, b2, b3, b4])) :
    Calls Tryd.prog 14 #[str [250, b1, b2, b3, b4]] w fun e w' => Below w.heap.size w w' ∧
      ∃ g cap, e = .returned (.tuple #[.slice (some ⟨g, 0, none⟩) 1 cap, .int .i64 0]) ∧ 1 ≤ cap ∧ w'.cell? ⟨g, 0, none⟩ = some (.int .i64 8) ∧ w'.cell? ⟨g, 1, none⟩ = some (.int .u64 n) ∧ w'.cell? ⟨g, 2, none⟩ = some (str []) := by
  go_enter Tryd.func14, Tryd.ntmps14
  go_wp2_with fail
  refine (y_read26 n b1 b2 b3 b4 w h0 hf).mono ?_
  rintro e w1 ⟨hb1, g, gc, g2, gc2, rfl, own1⟩
  have hs1 := hb1.size
  go_upto_region 2 with fail
  have own2 := own1.alloc (.cells #[.slice (some ⟨g, 0, none⟩) 1 gc, .slice (some ⟨g2, 0, none⟩) 1 gc2] 43)
  have hb2 := hb1.alloc hb1.size (.cells #[.slice (some ⟨g, 0, none⟩) 1 gc, .slice (some ⟨g2, 0, none⟩) 1 gc2] 43)
  have zv2 := blk_new w1 (.cells #[.slice (some ⟨g, 0, none⟩) 1 gc, .slice (some ⟨g2, 0, none⟩) 1 gc2] 43)
  have hg1 := own1.lt g rfl
  generalize w1.alloc (.cells #[.slice (some ⟨g, 0, none⟩) 1 gc, .slice (some ⟨g2, 0, none⟩) 1 gc2] 43) = w2 at *
  have hcap := own_cap own1
  obtain ⟨hl, c0, c1, c2⟩ := own_cells own2
  have hfz := own_frozen own2
  clear own1 own2 hb1
  have y0 := blk_cell zv2 0
  have y1 := blk_cell zv2 1
  go_wp2_with fail
  go_loopw [16] (fun i wx => (i = .int .i64 0 ∨ i = .int .i64 1) ∧ Below w.heap.size w wx ∧ wx.heap[w1.heap.size]? = some (.cells #[.slice (some ⟨g, 0, none⟩) 1 gc, .slice (some ⟨g2, 0, none⟩) 1 gc2] 43) ∧ g < w1.heap.size ∧ wx.cell? ⟨g, 0, none⟩ = some (.int .i64 8) ∧ wx.cell? ⟨g, 1, none⟩ = some (.int .u64 n) ∧ wx.cell? ⟨g, 2, none⟩ = some (str []) ∧ ∀ o, wx.frozen? ⟨g, o, none⟩ = false) (fun i _ => 2 - (intOf i).toNat)
  case atStart => exact ⟨.inl rfl, hb2, zv2, hg1.2, c0, c1, c2, hfz⟩
  case round =>
    clear c0 c1 c2 hfz y0 y1 zv2 hb2
    obtain ⟨hi, hbr, zr, hgl, c0, c1, c2, hfz⟩ := hrel
    have hlr := blk_lt zr
    rcases hi with rfl | rfl
    · go_upto_region 5 with fail
      have hb3 : Below wr.heap.size wr (wr.alloc (.cells #[.int .i64 8, .int .u64 n, str []] 28)) := (Below.refl _ _).alloc (Nat.le_refl _) _
      have zi3 := blk_new wr (.cells #[.int .i64 8, .int .u64 n, str []] 28)
      generalize wr.alloc (.cells #[.int .i64 8, .int .u64 n, str []] 28) = w3 at *
      have zv3 := blk_below zr hb3
      have hbb3 := hbr.trans (hb3.mono hbr.size)
      have d0 := ((bcell hb3).1 g 0 (by omega)).trans c0
      have d1 := ((bcell hb3).1 g 1 (by omega)).trans c1
      have d2 := ((bcell hb3).1 g 2 (by omega)).trans c2
      have df : ∀ o, w3.frozen? ⟨g, o, none⟩ = false := fun o => ((bcell hb3).2 g o (by omega)).trans (hfz o)
      clear c0 c1 c2 hfz zr hbr hb3
      have x0 := blk_cell zv3 0
      have x1 := blk_cell zv3 1
      have z0 := blk_cell zi3 0
      have z1 := blk_cell zi3 1
      have z2 := blk_cell zi3 2
      first
        | go_region_with (first | (go_at_call 18; refine (y_clone _).mono ?_; rintro e w4 ⟨rfl, rfl⟩))
        | skip
      all_goals go_wp2_with fail
      all_goals refine ⟨⟨.inr rfl, (bel_set hbb3 (by omega) _ _).drew, (heap_set_far (by omega)).trans zv3, hgl, ?_, ?_, ?_, ?_⟩, by simp [intOf]⟩
      all_goals first
        | exact (World.cell?_setCell_other _ _ _ _ (by simp)).trans d0
        | exact (World.cell?_setCell_other _ _ _ _ (by simp)).trans d1
        | exact World.cell?_setCell_same _ _ _ d2
        | (intro o; exact (congrFun (congrArg World.frozen? rfl) _).trans ((World.frozen?_setCell _ _ _ _).trans (df o)))
    · have x0 := blk_cell zr 0
      have x1 := blk_cell zr 1
      go_wp2_with fail
      go_ret2
      exact ⟨hbr, g, gc, rfl, hcap, c0, c1, c2⟩
theorem y_Dec26 (n : Nat) (b1 b2 b3 b4 : UInt8) (w : World) (h0 : Tabs w) (hf : Fl n 26 (Sg.num [b1, b2, b3, b4])) :
    Calls Tryd.prog 8 #[str [250, b1, b2, b3, b4]] w fun e w' => Below w.heap.size w w' ∧
      ∃ g cap, e = .returned (.tuple #[.slice (some ⟨g, 0, none⟩) 1 cap, .int .i64 0]) ∧ 1 ≤ cap ∧ w'.cell? ⟨g, 0, none⟩ = some (.int .i64 8) ∧ w'.cell? ⟨g, 1, none⟩ = some (.int .u64 n) ∧ w'.cell? ⟨g, 2, none⟩ = some (str []) := by
  go_enter Tryd.func8, Tryd.ntmps8
  go_wp2_with fail
  refine (y_Decode26 n b1 b2 b3 b4 w h0 hf).mono ?_
  rintro e w1 ⟨hb1, g, gc, rfl, hcap, c0, c1, c2⟩
  go_wp2_with fail
  go_ret2
  exact ⟨hb1, g, gc, rfl, hcap, c0, c1, c2⟩
end Go.Proofs.YtjogamanchaabaaDoor
