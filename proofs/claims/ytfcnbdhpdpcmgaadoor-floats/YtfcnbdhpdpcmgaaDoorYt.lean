import Derived.Test.YtfcnbdhpdpcmgaaDoorYs
namespace Go.Proofs.YtfcnbdhpdpcmgaaDoor
open Go.RowKit
set_option maxRecDepth 100000 in
theorem y_nextT25 (pb n : Nat) (b1 b2 : UInt8) (w0 w : World) (h0 : Tabs w0) (hbel : Below w0.heap.size w0 w) (hpb : w0.heap.size ≤ pb) (hf : Fl n 25 (Sg.num [b1, b2]))
    (hz : w.heap[pb]? = some (.cells #[str [249, b1, b2], .int .i64 0] 58)) :
    Calls Tryd.prog 19 #[.slice none 0 0, .iface 56 (.pointer (some ⟨pb, 0, none⟩)), .int .i64 1] w fun e w' => Gr pb w w' ∧
      w'.heap[pb]? = some (.cells #[str [], .int .i64 1] 58) ∧
      ∃ g cap, e = .returned (.tuple #[.slice (some ⟨g, 0, none⟩) 1 cap, .int .i64 0]) ∧ w'.ownsRow (w.heap.size + 1) 28 3 (.slice (some ⟨g, 0, none⟩) 1 cap) 1 (itC n) := by
  have h := h0.below hbel
  have h3 : 3 ≤ w0.heap.size := h0.lt
  have hlp := blk_lt hz
  obtain ⟨j0, hj, hj0, hj1, hj2⟩ := info_parts Tryd.infoItem
  go_enter Tryd.func19, Tryd.ntmps19
  go_wp2_with fail
  refine (y_tNext25 pb n b1 b2 w h hf (by omega) hz).mono ?_
  rintro e w1 ⟨rfl, hg1, hz1⟩
  have hs1 := hg1.size
  clear hz h hbel
  go_upto_region 4 with fail
  have b2 : Below w1.heap.size w1 (w1.alloc (.cells #[.int .i64 8, .int .u64 n, .string ⟨#[]⟩] 28)) := (Below.refl _ _).alloc (Nat.le_refl _) _
  have zi2 := blk_new w1 (.cells #[.int .i64 8, .int .u64 n, .string ⟨#[]⟩] 28)
  generalize w1.alloc (.cells #[.int .i64 8, .int .u64 n, .string ⟨#[]⟩] 28) = w2 at *
  have hz2 := blk_below hz1 b2
  have hg2 : Gr pb w w2 := hg1.trans (Gr.below b2)
  have hs2 : w.heap.size + 1 ≤ w2.heap.size := by have := blk_lt zi2; omega
  clear hz1 hg1 b2
  have y0 := blk_cell zi2 0
  have y1 := blk_cell zi2 1
  have y2 := blk_cell zi2 2
  have nw : ∀ (j : Nat) (u : Value), (itC n)[j]? = some u → (w2.alloc (.cells #[.int .i64 8, .int .u64 n, .string ⟨#[]⟩] 28)).cell? ((⟨w2.heap.size, 0, none⟩ : Addr).add j) = some u := World.news_of_block (blk_new w2 (.cells #[.int .i64 8, .int .u64 n, .string ⟨#[]⟩] 28))
  have Hnw : Hid (∀ (j : Nat) (u : Value), (itC n)[j]? = some u → (w2.alloc (.cells #[.int .i64 8, .int .u64 n, .string ⟨#[]⟩] 28)).cell? ((⟨w2.heap.size, 0, none⟩ : Addr).add j) = some u) := nw
  clear nw
  go_wp2_with (at_builtin; refine wpList_append_lies _ rfl (.tmp 19) (.tmp 21) 22 rfl (w.heap.size + 1) 28 j0 (.agg #[.int .i64 0, .int .u64 0, .string ⟨#[]⟩]) 3 32 Tryd.underlying22 hj hj0 hj1 hj2 rfl (by decide) (.slice none 0 0) 0 [] rfl (World.ownsRow_nil _ _ _ _) ⟨w2.heap.size, 0, none⟩ 1 1 (itC n) rfl rfl ?c1 ?c2 (by decide) ?c3 ?c4 ?c5 (w2.heap.size + 1) ?c6 ?_)
  case c1 => exact Hnw.out
  case c2 => intro u hu; simp at hu; rcases hu with rfl | rfl | rfl <;> rfl
  case c3 => decide
  case c4 => decide
  case c5 => simp; omega
  case c6 => simp
  intro g3 cap3 w3 hown hgrow _ hlt
  have zi3 := grow_kept0 hgrow zi2
  have hz3 := grow_kept0 hgrow hz2
  have hg3 := (hg2.alloc _).grow rfl hgrow
  clear y0 y1 y2 zi2 hz2 hg2 Hnw
  have y0 := blk_cell zi3 0
  have y1 := blk_cell zi3 1
  have y2 := blk_cell zi3 2
  go_wp2_with fail
  refine (y_inside n _).mono ?_
  rintro e w4 ⟨rfl, hb4⟩
  have hz4 := blk_below hz3 hb4
  have own4 := own_below hown hb4
  have hg4 := hg3.trans (Gr.below hb4)
  go_wp2_with fail
  refine wp_loop_rounds 1 ?_
  rw [rounds_succ]
  go_wp2_with fail
  go_ret2
  exact ⟨hg4, hz4, g3, cap3, rfl, own4⟩
set_option maxRecDepth 100000 in
theorem y_nextT26 (pb n : Nat) (b1 b2 b3 b4 : UInt8) (w0 w : World) (h0 : Tabs w0) (hbel : Below w0.heap.size w0 w) (hpb : w0.heap.size ≤ pb) (hf : Fl n 26 (Sg.num [b1, b2, b3, b4]))
    (hz : w.heap[pb]? = some (.cells #[str [250, b1, b2, b3, b4], .int .i64 0] 58)) :
    Calls Tryd.prog 19 #[.slice none 0 0, .iface 56 (.pointer (some ⟨pb, 0, none⟩)), .int .i64 1] w fun e w' => Gr pb w w' ∧
      w'.heap[pb]? = some (.cells #[str [], .int .i64 1] 58) ∧
      ∃ g cap, e = .returned (.tuple #[.slice (some ⟨g, 0, none⟩) 1 cap, .int .i64 0]) ∧ w'.ownsRow (w.heap.size + 1) 28 3 (.slice (some ⟨g, 0, none⟩) 1 cap) 1 (itC n) := by
  have h := h0.below hbel
  have h3 : 3 ≤ w0.heap.size := h0.lt
  have hlp := blk_lt hz
  obtain ⟨j0, hj, hj0, hj1, hj2⟩ := info_parts Tryd.infoItem
  go_enter Tryd.func19, Tryd.ntmps19
  go_wp2_with fail
  refine (y_tNext26 pb n b1 b2 b3 b4 w h hf (by omega) hz).mono ?_
  rintro e w1 ⟨rfl, hg1, hz1⟩
  have hs1 := hg1.size
  clear hz h hbel
  go_upto_region 4 with fail
  have b2 : Below w1.heap.size w1 (w1.alloc (.cells #[.int .i64 8, .int .u64 n, .string ⟨#[]⟩] 28)) := (Below.refl _ _).alloc (Nat.le_refl _) _
  have zi2 := blk_new w1 (.cells #[.int .i64 8, .int .u64 n, .string ⟨#[]⟩] 28)
  generalize w1.alloc (.cells #[.int .i64 8, .int .u64 n, .string ⟨#[]⟩] 28) = w2 at *
  have hz2 := blk_below hz1 b2
  have hg2 : Gr pb w w2 := hg1.trans (Gr.below b2)
  have hs2 : w.heap.size + 1 ≤ w2.heap.size := by have := blk_lt zi2; omega
  clear hz1 hg1 b2
  have y0 := blk_cell zi2 0
  have y1 := blk_cell zi2 1
  have y2 := blk_cell zi2 2
  have nw : ∀ (j : Nat) (u : Value), (itC n)[j]? = some u → (w2.alloc (.cells #[.int .i64 8, .int .u64 n, .string ⟨#[]⟩] 28)).cell? ((⟨w2.heap.size, 0, none⟩ : Addr).add j) = some u := World.news_of_block (blk_new w2 (.cells #[.int .i64 8, .int .u64 n, .string ⟨#[]⟩] 28))
  have Hnw : Hid (∀ (j : Nat) (u : Value), (itC n)[j]? = some u → (w2.alloc (.cells #[.int .i64 8, .int .u64 n, .string ⟨#[]⟩] 28)).cell? ((⟨w2.heap.size, 0, none⟩ : Addr).add j) = some u) := nw
  clear nw
  go_wp2_with (at_builtin; refine wpList_append_lies _ rfl (.tmp 19) (.tmp 21) 22 rfl (w.heap.size + 1) 28 j0 (.agg #[.int .i64 0, .int .u64 0, .string ⟨#[]⟩]) 3 32 Tryd.underlying22 hj hj0 hj1 hj2 rfl (by decide) (.slice none 0 0) 0 [] rfl (World.ownsRow_nil _ _ _ _) ⟨w2.heap.size, 0, none⟩ 1 1 (itC n) rfl rfl ?c1 ?c2 (by decide) ?c3 ?c4 ?c5 (w2.heap.size + 1) ?c6 ?_)
  case c1 => exact Hnw.out
  case c2 => intro u hu; simp at hu; rcases hu with rfl | rfl | rfl <;> rfl
  case c3 => decide
  case c4 => decide
  case c5 => simp; omega
  case c6 => simp
  intro g3 cap3 w3 hown hgrow _ hlt
  have zi3 := grow_kept0 hgrow zi2
  have hz3 := grow_kept0 hgrow hz2
  have hg3 := (hg2.alloc _).grow rfl hgrow
  clear y0 y1 y2 zi2 hz2 hg2 Hnw
  have y0 := blk_cell zi3 0
  have y1 := blk_cell zi3 1
  have y2 := blk_cell zi3 2
  go_wp2_with fail
  refine (y_inside n _).mono ?_
  rintro e w4 ⟨rfl, hb4⟩
  have hz4 := blk_below hz3 hb4
  have own4 := own_below hown hb4
  have hg4 := hg3.trans (Gr.below hb4)
  go_wp2_with fail
  refine wp_loop_rounds 1 ?_
  rw [rounds_succ]
  go_wp2_with fail
  go_ret2
  exact ⟨hg4, hz4, g3, cap3, rfl, own4⟩
end Go.Proofs.YtfcnbdhpdpcmgaaDoor
