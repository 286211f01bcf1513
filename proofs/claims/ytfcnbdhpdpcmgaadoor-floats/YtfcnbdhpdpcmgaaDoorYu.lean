import Derived.Test.YtfcnbdhpdpcmgaaDoorYt
namespace Go.Proofs.YtfcnbdhpdpcmgaaDoor
open Go.RowKit
theorem own_weak {w : World} {base base' n size : Nat} {e : TypeId} {v : Value} {xs : List Value} (h : w.ownsRow base e size v n xs) (hb : base' ≤ base) : w.ownsRow base' e size v n xs := by
  obtain ⟨h1, h2 | ⟨g, cap, cur, h2, h3, h4⟩⟩ := h
  · exact ⟨h1, .inl h2⟩
  · exact ⟨h1, .inr ⟨g, cap, cur, h2, Nat.le_trans hb h3, h4⟩⟩
theorem own_frozen {w : World} {base g cap m size : Nat} {e : TypeId} {xs : List Value} (h : w.ownsRow base e size (.slice (some ⟨g, 0, none⟩) m cap) m xs) (o : Nat) : w.frozen? ⟨g, o, none⟩ = false := by
  obtain ⟨_, hx | ⟨gg, cc, cur, hx, _, hh, _⟩⟩ := h
  · exact absurd hx.1 (by simp)
  · simp only [Value.slice.injEq, Option.some.injEq, Addr.mk.injEq] at hx
    obtain ⟨⟨rfl, _⟩, _⟩ := hx
    exact blk_frozen hh o
theorem y_sclone (w : World) : Calls Tryd.prog 24 #[str []] w fun e w' => e = .returned (str []) ∧ w' = w := by
  go_enter Tryd.func24, Tryd.ntmps24
  go_wp2_with fail
  go_ret
  exact ⟨rfl, rfl⟩
theorem y_clone (w : World) : Calls Tryd.prog 18 #[str []] w fun e w' => e = .returned (str []) ∧ w' = w := by
  go_enter Tryd.func18, Tryd.ntmps18
  go_wp2_with fail
  refine (y_sclone _).mono ?_
  rintro e w1 ⟨rfl, rfl⟩
  go_wp2_with fail
  go_ret
  exact ⟨rfl, rfl⟩
set_option maxRecDepth 100000 in
theorem y_valueOfT25 (pb n : Nat) (b1 b2 : UInt8) (w0 w : World) (h0 : Tabs w0) (hbel : Below w0.heap.size w0 w) (hpb : w0.heap.size ≤ pb) (hf : Fl n 25 (Sg.num [b1, b2]))
    (hz : w.heap[pb]? = some (.cells #[str [249, b1, b2], .int .i64 0] 58)) :
    Calls Tryd.prog 15 #[.iface 56 (.pointer (some ⟨pb, 0, none⟩))] w fun e w' => Below w0.heap.size w0 w' ∧
      ∃ g cap, e = .returned (.tuple #[.slice (some ⟨g, 0, none⟩) 1 cap, .int .i64 0]) ∧ w'.ownsRow (w.heap.size + 1) 28 3 (.slice (some ⟨g, 0, none⟩) 1 cap) 1 (itC n) := by
  have hle := hbel.size
  go_enter Tryd.func15, Tryd.ntmps15
  go_wp2_with fail
  refine (y_nextT25 pb n b1 b2 w0 w h0 hbel hpb hf hz).mono ?_
  rintro e w2 ⟨gr2, hz2, g, gc, rfl, own2⟩
  have hb2 := gr2.to hbel hpb hle
  clear hz gr2
  go_wp2_with fail
  refine (y_tEmpty0 pb _ _ hz2).mono ?_
  rintro e w3 ⟨rfl, rfl⟩
  go_wp2_with fail
  refine (y_isRising _ g gc n _ own2).mono ?_
  rintro e w4 ⟨rfl, hb4⟩
  have own4 := own_below own2 hb4
  have hbb4 := hb2.trans (hb4.mono hb2.size)
  clear own2 hb2 hz2 hb4
  go_wp2_with fail
  refine (y_isTaggedWell _ g gc n _ own4).mono ?_
  rintro e w5 ⟨rfl, hb5⟩
  have own5 := own_below own4 hb5
  have hbb5 := hbb4.trans (hb5.mono hbb4.size)
  clear own4 hbb4 hb5
  go_wp2_with fail
  go_ret2
  exact ⟨hbb5, g, gc, rfl, own5⟩
set_option maxRecDepth 100000 in
theorem y_read25 (n : Nat) (b1 b2 : UInt8) (w : World) (h0 : Tabs w) (hf : Fl n 25 (Sg.num [b1, b2])) :
    Calls Tryd.prog 17 #[str [249, b1, b2]] w fun e w' => Below w.heap.size w w' ∧
      ∃ g cap, e = .returned (.tuple #[.slice (some ⟨g, 0, none⟩) 1 cap, .int .i64 0]) ∧ w'.ownsRow (w.heap.size + 1) 28 3 (.slice (some ⟨g, 0, none⟩) 1 cap) 1 (itC n) := by
  go_enter Tryd.func17, Tryd.ntmps17
  go_wp2_with fail
  have hk0 : Below w.heap.size w (w.alloc (.cells #[str [249, b1, b2], .int .i64 0] 58)) := (Below.refl _ _).alloc (Nat.le_refl _) _
  have zt0 := blk_new w (.cells #[str [249, b1, b2], .int .i64 0] 58)
  generalize w.alloc (.cells #[str [249, b1, b2], .int .i64 0] 58) = w1 at *
  refine (y_valueOfT25 w.heap.size n b1 b2 w w1 h0 hk0 (Nat.le_refl _) hf zt0).mono ?_
  rintro e w2 ⟨hb2, g, gc, rfl, own2⟩
  have hs0 := hk0.size
  go_wp2_with fail
  go_ret2
  exact ⟨hb2, g, gc, rfl, own_weak own2 (by omega)⟩
set_option maxRecDepth 100000 in
theorem y_Decode25 (n : Nat) (b1 b2 : UInt8) (w : World) (h0 : Tabs w) (hf : Fl n 25 (Sg.num [b1, b2])) :
    Calls Tryd.prog 14 #[str [249, b1, b2]] w fun e w' => Below w.heap.size w w' ∧
      ∃ g cap, e = .returned (.tuple #[.slice (some ⟨g, 0, none⟩) 1 cap, .int .i64 0]) ∧ 1 ≤ cap ∧ w'.cell? ⟨g, 0, none⟩ = some (.int .i64 8) ∧ w'.cell? ⟨g, 1, none⟩ = some (.int .u64 n) ∧ w'.cell? ⟨g, 2, none⟩ = some (str []) := by
  go_enter Tryd.func14, Tryd.ntmps14
  go_wp2_with fail
  refine (y_read25 n b1 b2 w h0 hf).mono ?_
  rintro e w1 ⟨hb1, g, gc, rfl, own1⟩
  have hs1 := hb1.size
  have hg1 := own1.lt g rfl
  have hcap := own_cap own1
  obtain ⟨hl, c0, c1, c2⟩ := own_cells own1
  have hfz := own_frozen own1
  clear own1
  go_wp2_with fail
  go_loopw [15] (fun i wx => (i = .int .i64 0 ∨ i = .int .i64 1) ∧ Below w.heap.size w wx ∧ g < wx.heap.size ∧ wx.cell? ⟨g, 0, none⟩ = some (.int .i64 8) ∧ wx.cell? ⟨g, 1, none⟩ = some (.int .u64 n) ∧ wx.cell? ⟨g, 2, none⟩ = some (str []) ∧ ∀ o, wx.frozen? ⟨g, o, none⟩ = false) (fun i _ => 2 - (intOf i).toNat)
  case atStart => exact ⟨.inl rfl, hb1, hl, c0, c1, c2, hfz⟩
  case round =>
    clear c0 c1 c2 hfz hb1
    obtain ⟨hi, hbr, hgl, c0, c1, c2, hfz⟩ := hrel
    rcases hi with rfl | rfl
    · go_upto_region 5 with fail
      have hb3 : Below wr.heap.size wr (wr.alloc (.cells #[.int .i64 8, .int .u64 n, str []] 28)) := (Below.refl _ _).alloc (Nat.le_refl _) _
      have zi3 := blk_new wr (.cells #[.int .i64 8, .int .u64 n, str []] 28)
      generalize wr.alloc (.cells #[.int .i64 8, .int .u64 n, str []] 28) = w3 at *
      have hbb3 := hbr.trans (hb3.mono hbr.size)
      have hgl3 : g < w3.heap.size := Nat.lt_of_lt_of_le hgl hb3.size
      have d0 := ((bcell hb3).1 g 0 hgl).trans c0
      have d1 := ((bcell hb3).1 g 1 hgl).trans c1
      have d2 := ((bcell hb3).1 g 2 hgl).trans c2
      have df : ∀ o, w3.frozen? ⟨g, o, none⟩ = false := fun o => ((bcell hb3).2 g o hgl).trans (hfz o)
      clear c0 c1 c2 hfz hbr hb3
      have z0 := blk_cell zi3 0
      have z1 := blk_cell zi3 1
      have z2 := blk_cell zi3 2
      go_wp2_with fail
      refine (y_clone _).mono ?_
      rintro e w4 ⟨rfl, rfl⟩
      go_wp2_with fail
      go_roundw
      case rel =>
        refine ⟨.inr rfl, bel_set hbb3 (by omega) _ _, by simp; exact hgl3, (World.cell?_setCell_other _ _ _ _ (by simp)).trans d0, (World.cell?_setCell_other _ _ _ _ (by simp)).trans d1, World.cell?_setCell_same _ _ _ d2, ?_⟩
        intro o
        exact (World.frozen?_setCell _ _ _ _).trans (df o)
      case measure => simp [intOf]
    · go_wp2_with fail
      go_ret2
      exact ⟨hbr, g, gc, rfl, hcap, c0, c1, c2⟩
theorem y_Dec25 (n : Nat) (b1 b2 : UInt8) (w : World) (h0 : Tabs w) (hf : Fl n 25 (Sg.num [b1, b2])) :
    Calls Tryd.prog 8 #[str [249, b1, b2]] w fun e w' => Below w.heap.size w w' ∧
      ∃ g cap, e = .returned (.tuple #[.slice (some ⟨g, 0, none⟩) 1 cap, .int .i64 0]) ∧ 1 ≤ cap ∧ w'.cell? ⟨g, 0, none⟩ = some (.int .i64 8) ∧ w'.cell? ⟨g, 1, none⟩ = some (.int .u64 n) ∧ w'.cell? ⟨g, 2, none⟩ = some (str []) := by
  go_enter Tryd.func8, Tryd.ntmps8
  go_wp2_with fail
  refine (y_Decode25 n b1 b2 w h0 hf).mono ?_
  rintro e w1 ⟨hb1, g, gc, rfl, hcap, c0, c1, c2⟩
  go_wp2_with fail
  go_ret2
  exact ⟨hb1, g, gc, rfl, hcap, c0, c1, c2⟩
set_option maxRecDepth 100000 in
theorem y_valueOfT26 (pb n : Nat) (b1 b2 b3 b4 : UInt8) (w0 w : World) (h0 : Tabs w0) (hbel : Below w0.heap.size w0 w) (hpb : w0.heap.size ≤ pb) (hf : Fl n 26 (Sg.num [b1, b2, b3, b4]))
    (hz : w.heap[pb]? = some (.cells #[str [250, b1, b2, b3, b4], .int .i64 0] 58)) :
    Calls Tryd.prog 15 #[.iface 56 (.pointer (some ⟨pb, 0, none⟩))] w fun e w' => Below w0.heap.size w0 w' ∧
      ∃ g cap, e = .returned (.tuple #[.slice (some ⟨g, 0, none⟩) 1 cap, .int .i64 0]) ∧ w'.ownsRow (w.heap.size + 1) 28 3 (.slice (some ⟨g, 0, none⟩) 1 cap) 1 (itC n) := by
  have hle := hbel.size
  go_enter Tryd.func15, Tryd.ntmps15
  go_wp2_with fail
  refine (y_nextT26 pb n b1 b2 b3 b4 w0 w h0 hbel hpb hf hz).mono ?_
  rintro e w2 ⟨gr2, hz2, g, gc, rfl, own2⟩
  have hb2 := gr2.to hbel hpb hle
  clear hz gr2
  go_wp2_with fail
  refine (y_tEmpty0 pb _ _ hz2).mono ?_
  rintro e w3 ⟨rfl, rfl⟩
  go_wp2_with fail
  refine (y_isRising _ g gc n _ own2).mono ?_
  rintro e w4 ⟨rfl, hb4⟩
  have own4 := own_below own2 hb4
  have hbb4 := hb2.trans (hb4.mono hb2.size)
  clear own2 hb2 hz2 hb4
  go_wp2_with fail
  refine (y_isTaggedWell _ g gc n _ own4).mono ?_
  rintro e w5 ⟨rfl, hb5⟩
  have own5 := own_below own4 hb5
  have hbb5 := hbb4.trans (hb5.mono hbb4.size)
  clear own4 hbb4 hb5
  go_wp2_with fail
  go_ret2
  exact ⟨hbb5, g, gc, rfl, own5⟩
set_option maxRecDepth 100000 in
theorem y_read26 (n : Nat) (b1 b2 b3 b4 : UInt8) (w : World) (h0 : Tabs w) (hf : Fl n 26 (Sg.num [b1, b2, b3, b4])) :
    Calls Tryd.prog 17 #[str [250, b1, b2, b3, b4]] w fun e w' => Below w.heap.size w w' ∧
      ∃ g cap, e = .returned (.tuple #[.slice (some ⟨g, 0, none⟩) 1 cap, .int .i64 0]) ∧ w'.ownsRow (w.heap.size + 1) 28 3 (.slice (some ⟨g, 0, none⟩) 1 cap) 1 (itC n) := by
  go_enter Tryd.func17, Tryd.ntmps17
  go_wp2_with fail
  have hk0 : Below w.heap.size w (w.alloc (.cells #[str [250, b1, b2, b3, b4], .int .i64 0] 58)) := (Below.refl _ _).alloc (Nat.le_refl _) _
  have zt0 := blk_new w (.cells #[str [250, b1, b2, b3, b4], .int .i64 0] 58)
  generalize w.alloc (.cells #[str [250, b1, b2, b3, b4], .int .i64 0] 58) = w1 at *
  refine (y_valueOfT26 w.heap.size n b1 b2 b3 b4 w w1 h0 hk0 (Nat.le_refl _) hf zt0).mono ?_
  rintro e w2 ⟨hb2, g, gc, rfl, own2⟩
  have hs0 := hk0.size
  go_wp2_with fail
  go_ret2
  exact ⟨hb2, g, gc, rfl, own_weak own2 (by omega)⟩
set_option maxRecDepth 100000 in
theorem y_Decode26 (n : Nat) (b1 b2 b3 b4 : UInt8) (w : World) (h0 : Tabs w) (hf : Fl n 26 (Sg.num [b1, b2, b3, b4])) :
    Calls Tryd.prog 14 #[str [250, b1, b2, b3, b4]] w fun e w' => Below w.heap.size w w' ∧
      ∃ g cap, e = .returned (.tuple #[.slice (some ⟨g, 0, none⟩) 1 cap, .int .i64 0]) ∧ 1 ≤ cap ∧ w'.cell? ⟨g, 0, none⟩ = some (.int .i64 8) ∧ w'.cell? ⟨g, 1, none⟩ = some (.int .u64 n) ∧ w'.cell? ⟨g, 2, none⟩ = some (str []) := by
  go_enter Tryd.func14, Tryd.ntmps14
  go_wp2_with fail
  refine (y_read26 n b1 b2 b3 b4 w h0 hf).mono ?_
  rintro e w1 ⟨hb1, g, gc, rfl, own1⟩
  have hs1 := hb1.size
  have hg1 := own1.lt g rfl
  have hcap := own_cap own1
  obtain ⟨hl, c0, c1, c2⟩ := own_cells own1
  have hfz := own_frozen own1
  clear own1
  go_wp2_with fail
  go_loopw [15] (fun i wx => (i = .int .i64 0 ∨ i = .int .i64 1) ∧ Below w.heap.size w wx ∧ g < wx.heap.size ∧ wx.cell? ⟨g, 0, none⟩ = some (.int .i64 8) ∧ wx.cell? ⟨g, 1, none⟩ = some (.int .u64 n) ∧ wx.cell? ⟨g, 2, none⟩ = some (str []) ∧ ∀ o, wx.frozen? ⟨g, o, none⟩ = false) (fun i _ => 2 - (intOf i).toNat)
  case atStart => exact ⟨.inl rfl, hb1, hl, c0, c1, c2, hfz⟩
  case round =>
    clear c0 c1 c2 hfz hb1
    obtain ⟨hi, hbr, hgl, c0, c1, c2, hfz⟩ := hrel
    rcases hi with rfl | rfl
    · go_upto_region 5 with fail
      have hb3 : Below wr.heap.size wr (wr.alloc (.cells #[.int .i64 8, .int .u64 n, str []] 28)) := (Below.refl _ _).alloc (Nat.le_refl _) _
      have zi3 := blk_new wr (.cells #[.int .i64 8, .int .u64 n, str []] 28)
      generalize wr.alloc (.cells #[.int .i64 8, .int .u64 n, str []] 28) = w3 at *
      have hbb3 := hbr.trans (hb3.mono hbr.size)
      have hgl3 : g < w3.heap.size := Nat.lt_of_lt_of_le hgl hb3.size
      have d0 := ((bcell hb3).1 g 0 hgl).trans c0
      have d1 := ((bcell hb3).1 g 1 hgl).trans c1
      have d2 := ((bcell hb3).1 g 2 hgl).trans c2
      have df : ∀ o, w3.frozen? ⟨g, o, none⟩ = false := fun o => ((bcell hb3).2 g o hgl).trans (hfz o)
      clear c0 c1 c2 hfz hbr hb3
      have z0 := blk_cell zi3 0
      have z1 := blk_cell zi3 1
      have z2 := blk_cell zi3 2
      go_wp2_with fail
      refine (y_clone _).mono ?_
      rintro e w4 ⟨rfl, rfl⟩
      go_wp2_with fail
      go_roundw
      case rel =>
        refine ⟨.inr rfl, bel_set hbb3 (by omega) _ _, by simp; exact hgl3, (World.cell?_setCell_other _ _ _ _ (by simp)).trans d0, (World.cell?_setCell_other _ _ _ _ (by simp)).trans d1, World.cell?_setCell_same _ _ _ d2, ?_⟩
        intro o
        exact (World.frozen?_setCell _ _ _ _).trans (df o)
      case measure => simp [intOf]
    · go_wp2_with fail
      go_ret2
      exact ⟨hbr, g, gc, rfl, hcap, c0, c1, c2⟩
theorem y_Dec26 (n : Nat) (b1 b2 b3 b4 : UInt8) (w : World) (h0 : Tabs w) (hf : Fl n 26 (Sg.num [b1, b2, b3, b4])) :
    Calls Tryd.prog 8 #[str [250, b1, b2, b3, b4]] w fun e w' => Below w.heap.size w w' ∧
      ∃ g cap, e = .returned (.tuple #[.slice (some ⟨g, 0, none⟩) 1 cap, .int .i64 0]) ∧ 1 ≤ cap ∧ w'.cell? ⟨g, 0, none⟩ = some (.int .i64 8) ∧ w'.cell? ⟨g, 1, none⟩ = some (.int .u64 n) ∧ w'.cell? ⟨g, 2, none⟩ = some (str []) := by
  go_enter Tryd.func8, Tryd.ntmps8
  go_wp2_with fail
  refine (y_Decode26 n b1 b2 b3 b4 w h0 hf).mono ?_
  rintro e w1 ⟨hb1, g, gc, rfl, hcap, c0, c1, c2⟩
  go_wp2_with fail
  go_ret2
  exact ⟨hb1, g, gc, rfl, hcap, c0, c1, c2⟩
end Go.Proofs.YtfcnbdhpdpcmgaaDoor
