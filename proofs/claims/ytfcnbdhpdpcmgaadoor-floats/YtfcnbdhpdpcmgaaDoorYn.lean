import Derived.Test.YtfcnbdhpdpcmgaaDoorYm
namespace Go.Proofs.YtfcnbdhpdpcmgaaDoor
open Go.RowKit
set_option maxRecDepth 100000 in
theorem y_valueOfL (pb b off cap n : Nat) (w0 w : World) (h0 : Tabs w0) (hbel : Below w0.heap.size w0 w) (hpb : w0.heap.size ≤ pb) (hn : n < 18446744073709551616) (he : n / 4503599627370496 % 2048 ≤ 2046) (hc : 1 ≤ cap)
    (hz : w.heap[pb]? = some (.cells #[.slice (some ⟨b, off, none⟩) 1 cap] 45))
    (i0 : w.cell? ⟨b, off, none⟩ = some (.int .i64 8)) (i1 : w.cell? ⟨b, off + 1, none⟩ = some (.int .u64 n)) (i2 : w.cell? ⟨b, off + 2, none⟩ = some (str [])) :
    Calls Tryd.prog 15 #[.iface 43 (.pointer (some ⟨pb, 0, none⟩))] w fun e w' => Below w0.heap.size w0 w' ∧
      ∃ g cap, e = .returned (.tuple #[.slice (some ⟨g, 0, none⟩) 1 cap, .int .i64 0]) ∧ w'.ownsRow (w.heap.size + 1) 28 3 (.slice (some ⟨g, 0, none⟩) 1 cap) 1 (itC n) := by
  have hle := hbel.size
  go_enter Tryd.func15, Tryd.ntmps15
  go_wp2_with fail
  refine (y_nextL pb b off cap n w0 w h0 hbel hpb hn he hc hz i0 i1 i2).mono ?_
  rintro e w2 ⟨gr2, ⟨a2, c2, hz2⟩, g, gc, rfl, own2⟩
  have hb2 := gr2.to hbel hpb hle
  clear hz gr2
  go_wp2_with fail
  refine (y_lEmpty pb 0 c2 a2 _ hz2).mono ?_
  rintro e w3 ⟨rfl, rfl⟩
  go_wp2_with fail
  refine (y_isRising _ g gc n _ own2).mono ?_
  rintro e w4 ⟨rfl, hb4⟩
  have own4 := own_below own2 hb4
  have hbb4 := hb2.trans (hb4.mono hb2.size)
  clear own2 hb2 hz2 hb4
  go_wp2_with fail
  refine (y_isTaggedWell _ g gc n _ own4).mono ?_
  rintro e w5 ⟨rfl, hb5⟩
  have own5 := own_below own4 hb5
  have hbb5 := hbb4.trans (hb5.mono hbb4.size)
  clear own4 hbb4 hb5
  go_wp2_with fail
  go_ret2
  exact ⟨hbb5, g, gc, rfl, own5⟩
end Go.Proofs.YtfcnbdhpdpcmgaaDoor
