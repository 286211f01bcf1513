import Derived.Test.YtjogamanchaabaaDoorYm
namespace Go.Proofs.YtjogamanchaabaaDoor
open Go.RowKit
theorem set2 {w : World} {H : Nat} {a b : Value} {t : TypeId} (hz : w.heap[H]? = some (.cells #[a, b] t)) (x y : Value) : ((w.setCell ⟨H, 0, none⟩ x).setCell ⟨H, 1, none⟩ y).heap[H]? = some (.cells #[x, y] t) := by
  simp [World.setCell, Array.getElem?_modify, hz]
set_option maxRecDepth 100000 in
theorem y_valueOfL (pb b off cap n : Nat) (w0 w : World) (h0 : Tabs w0) (hbel : Below w0.heap.size w0 w) (hpb : w0.heap.size ≤ pb) (hn : n < 18446744073709551616) (he : n / 4503599627370496 % 2048 ≤ 2046) (hc : 1 ≤ cap)
    (hz : w.heap[pb]? = some (.cells #[.slice (some ⟨b, off, none⟩) 1 cap] 48))
    (i0 : w.cell? ⟨b, off, none⟩ = some (.int .i64 8)) (i1 : w.cell? ⟨b, off + 1, none⟩ = some (.int .u64 n)) (i2 : w.cell? ⟨b, off + 2, none⟩ = some (str [])) :
    Calls Tryd.prog 15 #[.iface 46 (.pointer (some ⟨pb, 0, none⟩))] w fun e w' => Below w0.heap.size w0 w' ∧
      ∃ g cap g2 cap2, e = .returned (.tuple #[.agg #[.slice (some ⟨g, 0, none⟩) 1 cap, .slice (some ⟨g2, 0, none⟩) 1 cap2], .int .i64 0]) ∧ w'.ownsRow (w.heap.size + 3) 28 3 (.slice (some ⟨g, 0, none⟩) 1 cap) 1 (itC n) := by
  have hlp := blk_lt hz
  have hlb : b < w.heap.size := block_lt_of_cell i0
  have hle := hbel.size
  go_enter Tryd.func15, Tryd.ntmps15
  go_wp2_with fail
  obtain ⟨hb1, zr1, zv1⟩ := two_alloc w (.cells #[.slice none 0 0, .slice none 0 0] 43) (.cells #[.slice none 0 0, .slice none 0 0] 43)
  have hs1 : ((w.alloc (.cells #[.slice none 0 0, .slice none 0 0] 43)).alloc (.cells #[.slice none 0 0, .slice none 0 0] 43)).heap.size = w.heap.size + 2 := by simp
  generalize (w.alloc (.cells #[.slice none 0 0, .slice none 0 0] 43)).alloc (.cells #[.slice none 0 0, .slice none 0 0] 43) = w1 at *
  have hbb1 := hbel.trans (hb1.mono hbel.size)
  refine (y_takeL (w.heap.size + 1) pb b off cap n w0 w1 h0 hbb1 hpb (by omega) hn he hc zv1 (blk_below hz hb1) (((bcell hb1).1 _ _ hlb).trans i0) (((bcell hb1).1 _ _ hlb).trans i1) (((bcell hb1).1 _ _ hlb).trans i2)).mono ?_
  rintro e w2 ⟨rfl, gr2, ⟨a2, c2, hz2⟩, g, gc, g2, gc2, zv2, own2⟩
  have zr2 := (gr2.block w.heap.size (by omega) (by omega) (by omega)).trans zr1
  have hb2 := gr2.to hbb1 (by omega) hpb (by omega)
  rw [hs1] at own2
  have hs2 := gr2.size
  clear hb1 zr1 zv1 hz i0 i1 i2 gr2 hbb1
  go_wp2_with fail
  refine (y_lEmpty pb 0 c2 a2 _ hz2).mono ?_
  rintro e w3 ⟨rfl, rfl⟩
  have x0 := blk_cell zv2 0
  have x1 := blk_cell zv2 1
  go_wp2_with fail
  refine (y_isRising _ g gc n _ _ own2).mono ?_
  rintro e w4 ⟨rfl, hb4⟩
  have zv4 := blk_below zv2 hb4
  have zr4 := blk_below zr2 hb4
  have own4 := own_below own2 hb4
  have hbb4 := hb2.trans (hb4.mono hb2.size)
  have hs4 := hb4.size
  clear x0 x1 zv2 zr2 own2 hb2 hz2 hb4
  have x0 := blk_cell zv4 0
  have x1 := blk_cell zv4 1
  go_wp2_with fail
  refine (y_isTaggedWell _ g gc n _ _ own4).mono ?_
  rintro e w5 ⟨rfl, hb5⟩
  have zv5 := blk_below zv4 hb5
  have zr5 := blk_below zr4 hb5
  have own5 := own_below own4 hb5
  have hbb5 := hbb4.trans (hb5.mono hbb4.size)
  have hs5 := hb5.size
  clear x0 x1 zv4 zr4 own4 hbb4 hb5
  have x0 := blk_cell zv5 0
  have x1 := blk_cell zv5 1
  have y0 := blk_cell zr5 0
  have y1 := blk_cell zr5 1
  have yf := blk_frozen zr5
  go_wp2_with fail
  (try simp only [Exit.inBlock, Exit.then])
  refine bodyPost_ret (results_row_tmp (ty := 43) rfl _ _ w.heap.size _ _ _ _ rfl (set2 zr5 _ _) rfl rfl rfl) rfl ?_
  exact ⟨bel_set (bel_set hbb5 hle _ _) hle _ _, g, gc, g2, gc2, rfl, ownsRow_setCell_below (ownsRow_setCell_below own5 (by show w.heap.size < _; omega) _) (by show w.heap.size < _; omega) _⟩
end Go.Proofs.YtjogamanchaabaaDoor
