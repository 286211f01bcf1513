import Derived.Test.YtfcnbdhpdpcmgaaDoorYi
import Derived.Deep.AppendLies
import Derived.OwnWalk
namespace Go.Proofs.YtfcnbdhpdpcmgaaDoor
open Go.RowKit
theorem Tryd.infoU8 : (Tryd.prog.info? 5).map (fun i => (i.zero, i.size, i.bytes)) = some (some (.int .u8 0), 1, 1) := by kernel_rfl
theorem below_grown {n : Nat} {w0 w w' : World} {row : Option Nat} (h : Below n w0 w) (hg : w.grownBy w' row) (hr : ∀ k, row = some k → n ≤ k) (hn : n ≤ w.heap.size) : Below n w0 w' :=
  ⟨hg.os.trans h.os, hg.tape.trans h.tape, hg.output.trans h.output, Nat.le_trans h.size hg.size, fun k hk => (hg.block k (Nat.lt_of_lt_of_le hk hn) (fun c => by have := hr k c.symm; omega)).trans (h.block k hk)⟩
/-- the head lies at the first new block, behind it bytes are gathered -/
structure Hd (w0 : World) (t k : Nat) (w : World) (v : Value) (n : Nat) (xs : List Value) : Prop where
  bel : Below w0.heap.size w0 w
  hd : w.heap[w0.heap.size]? = some (.cells #[.int .u8 7, .int .u8 t, .int .u64 k] 53)
  own : w.ownsRow (w0.heap.size + 1) 5 1 v n xs
theorem Hd.first (w : World) (t k : Nat) : Hd w t k (w.alloc (.cells #[.int .u8 7, .int .u8 t, .int .u64 k] 53)) (.slice none 0 0) 0 [] :=
  ⟨(Below.refl _ _).alloc (Nat.le_refl _) _, blk_new _ _, World.ownsRow_nil _ _ _ _⟩
theorem Hd.step {w0 w w' : World} {t k n : Nat} {v v' : Value} {xs xs' : List Value} (h : Hd w0 t k w v n xs) {o : Obj} {n' : Nat} (hown : w'.ownsRow (w0.heap.size + 1) 5 1 v' n' xs') (hg : (w.alloc o).grownBy w' v.ownBlock) : Hd w0 t k w' v' n' xs' := by
  have hlt := blk_lt h.hd
  have hr : ∀ k, v.ownBlock = some k → w0.heap.size + 1 ≤ k := fun k hk => (h.own.lt k hk).1
  refine ⟨below_grown (h.bel.alloc (Nat.le_of_lt hlt) _) hg (fun k hk => Nat.le_of_succ_le (hr k hk)) (by simp; omega), ?_, hown⟩
  have e1 : (w.alloc o).heap[w0.heap.size]? = w.heap[w0.heap.size]? := by
    show (w.heap.push o)[w0.heap.size]? = _
    rw [Array.getElem?_push, if_neg (by omega)]
  rw [hg.block _ (by simp; omega) (fun c => by have := hr _ c.symm; omega), e1]
  exact h.hd
theorem news_one (w : World) {x y : Value} (h : x = y) (t : TypeId) : ∀ (j : Nat) (u : Value), [y][j]? = some u → (w.alloc (.cells #[x] t)).cell? ((⟨w.heap.size, 0, none⟩ : Addr).add j) = some u := by
  subst h
  exact World.news_of_block (blk_new w (.cells #[x] t))
theorem news_two (w : World) {x y x' y' : Value} (h : x = y) (h' : x' = y') (t : TypeId) : ∀ (j : Nat) (u : Value), [y, y'][j]? = some u → (w.alloc (.cells #[x, x'] t)).cell? ((⟨w.heap.size, 0, none⟩ : Addr).add j) = some u := by
  subst h; subst h'
  exact World.news_of_block (blk_new w (.cells #[x, x'] t))
set_option maxRecDepth 100000 in
set_option maxHeartbeats 1000000 in
theorem y_appendTo25 (k : Nat) (w : World) (hk : k < 65536) : Calls Tryd.prog 23 #[headV 7 25 k, .slice none 0 0] w fun e w' => ∃ g cap, e = .returned (.slice (some ⟨g, 0, none⟩) 3 cap) ∧ w'.ownsRow (w.heap.size + 1) 5 1 (.slice (some ⟨g, 0, none⟩) 3 cap) 3 [.int .u8 249, .int .u8 (k / 256 : Nat), .int .u8 (k % 256 : Nat)] ∧ Below w.heap.size w w' := by
  obtain ⟨i0, hi, hz0, hz1, hz2⟩ := info_parts Tryd.infoU8
  go_enter Tryd.func23, Tryd.ntmps23
  go_upto_region 1 with fail
  have H0 := Hd.first w 25 k
  generalize w.alloc (.cells #[.int .u8 7, .int .u8 25, .int .u64 k] 53) = w1 at *
  have y0 := blk_cell H0.hd 0
  have y1 := blk_cell H0.hd 1
  have y2 := blk_cell H0.hd 2
  have hl := blk_lt H0.hd
  go_wp2_with (at_builtin; refine wpList_append_lies _ rfl (.tmp 6) (.tmp 13) 36 rfl (w.heap.size + 1) 5 i0 (.int .u8 0) 1 1 Tryd.underlying36 hi hz0 hz1 hz2 rfl (by decide) (.slice none 0 0) 0 _ rfl (H0.own.alloc _) ⟨w1.heap.size, 0, none⟩ 1 1 [.int .u8 249] rfl rfl ?c1 ?c2 (by decide) ?c3 ?c4 ?c5 (w1.heap.size + 1) ?c6 ?_)
  case c1 => exact news_one _ (congrArg (Value.int .u8) (by decide)) _
  case c2 => intro u hu; simp at hu; subst hu; rfl
  case c3 => decide
  case c4 => decide
  case c5 => simp; omega
  case c6 => simp
  intro g2 cap2 w2 hown hgrow _ _
  have H1 := H0.step hown hgrow
  clear y0 y1 y2 hl hgrow H0
  clear hown
  have y0 := blk_cell H1.hd 0
  have y1 := blk_cell H1.hd 1
  have y2 := blk_cell H1.hd 2
  have hl := blk_lt H1.hd
  go_wp2_with (at_builtin; refine wpList_append_lies _ rfl (.tmp 51) (.tmp 55) 36 rfl (w.heap.size + 1) 5 i0 (.int .u8 0) 1 1 Tryd.underlying36 hi hz0 hz1 hz2 rfl (by decide) _ 1 _ rfl (H1.own.alloc _) ⟨w2.heap.size, 0, none⟩ 1 1 [.int .u8 (k / 256 : Nat)] rfl rfl ?c1 ?c2 (by decide) ?c3 ?c4 ?c5 (w2.heap.size + 1) ?c6 ?_)
  case c1 => exact news_one _ (congrArg (Value.int .u8) (by omega)) _
  case c2 => intro u hu; simp at hu; subst hu; rfl
  case c3 => decide
  case c4 => decide
  case c5 => simp; omega
  case c6 => simp
  intro g3 cap3 w3 hown hgrow _ _
  have H2 := H1.step hown hgrow
  clear y0 y1 y2 hl hgrow H1
  clear hown
  have y0 := blk_cell H2.hd 0
  have y1 := blk_cell H2.hd 1
  have y2 := blk_cell H2.hd 2
  have hl := blk_lt H2.hd
  go_wp2_with (at_builtin; refine wpList_append_lies _ rfl (.tmp 57) (.tmp 60) 36 rfl (w.heap.size + 1) 5 i0 (.int .u8 0) 1 1 Tryd.underlying36 hi hz0 hz1 hz2 rfl (by decide) _ 2 _ rfl (H2.own.alloc _) ⟨w3.heap.size, 0, none⟩ 1 1 [.int .u8 (k % 256 : Nat)] rfl rfl ?c1 ?c2 (by decide) ?c3 ?c4 ?c5 (w3.heap.size + 1) ?c6 ?_)
  case c1 => exact news_one _ (congrArg (Value.int .u8) (by omega)) _
  case c2 => intro u hu; simp at hu; subst hu; rfl
  case c3 => decide
  case c4 => decide
  case c5 => simp; omega
  case c6 => simp
  intro g4 cap4 w4 hown hgrow _ _
  have H3 := H2.step hown hgrow
  clear y0 y1 y2 hl hgrow H2
  go_wp2_with fail
  go_ret
  exact ⟨g4, cap4, rfl, hown, H3.bel⟩
set_option maxRecDepth 100000 in
set_option maxHeartbeats 1000000 in
theorem y_appendTo26 (k : Nat) (w : World) (hk : k < 4294967296) : Calls Tryd.prog 23 #[headV 7 26 k, .slice none 0 0] w fun e w' => ∃ g cap, e = .returned (.slice (some ⟨g, 0, none⟩) 5 cap) ∧ w'.ownsRow (w.heap.size + 1) 5 1 (.slice (some ⟨g, 0, none⟩) 5 cap) 5 [.int .u8 250, .int .u8 (k / 16777216 : Nat), .int .u8 (k / 65536 % 256 : Nat), .int .u8 (k / 256 % 256 : Nat), .int .u8 (k % 256 : Nat)] ∧ Below w.heap.size w w' := by
  obtain ⟨i0, hi, hz0, hz1, hz2⟩ := info_parts Tryd.infoU8
  go_enter Tryd.func23, Tryd.ntmps23
  go_upto_region 1 with fail
  have H0 := Hd.first w 26 k
  generalize w.alloc (.cells #[.int .u8 7, .int .u8 26, .int .u64 k] 53) = w1 at *
  have y0 := blk_cell H0.hd 0
  have y1 := blk_cell H0.hd 1
  have y2 := blk_cell H0.hd 2
  have hl := blk_lt H0.hd
  go_wp2_with (at_builtin; refine wpList_append_lies _ rfl (.tmp 6) (.tmp 13) 36 rfl (w.heap.size + 1) 5 i0 (.int .u8 0) 1 1 Tryd.underlying36 hi hz0 hz1 hz2 rfl (by decide) (.slice none 0 0) 0 _ rfl (H0.own.alloc _) ⟨w1.heap.size, 0, none⟩ 1 1 [.int .u8 250] rfl rfl ?c1 ?c2 (by decide) ?c3 ?c4 ?c5 (w1.heap.size + 1) ?c6 ?_)
  case c1 => exact news_one _ (congrArg (Value.int .u8) (by decide)) _
  case c2 => intro u hu; simp at hu; subst hu; rfl
  case c3 => decide
  case c4 => decide
  case c5 => simp; omega
  case c6 => simp
  intro g2 cap2 w2 hown hgrow _ _
  have H1 := H0.step hown hgrow
  clear y0 y1 y2 hl hgrow H0
  clear hown
  have y0 := blk_cell H1.hd 0
  have y1 := blk_cell H1.hd 1
  have y2 := blk_cell H1.hd 2
  have hl := blk_lt H1.hd
  go_wp2_with (at_builtin; refine wpList_append_lies _ rfl (.tmp 42) (.tmp 49) 36 rfl (w.heap.size + 1) 5 i0 (.int .u8 0) 1 1 Tryd.underlying36 hi hz0 hz1 hz2 rfl (by decide) _ 1 _ rfl (H1.own.alloc _) ⟨w2.heap.size, 0, none⟩ 2 2 [.int .u8 (k / 16777216 : Nat), .int .u8 (k / 65536 % 256 : Nat)] rfl rfl ?c1 ?c2 (by decide) ?c3 ?c4 ?c5 (w2.heap.size + 1) ?c6 ?_)
  case c1 => exact news_two _ (congrArg (Value.int .u8) (by omega)) (congrArg (Value.int .u8) (by omega)) _
  case c2 => intro u hu; simp at hu; rcases hu with rfl | rfl <;> rfl
  case c3 => decide
  case c4 => decide
  case c5 => simp; omega
  case c6 => simp
  intro g3 cap3 w3 hown hgrow _ _
  have H2 := H1.step hown hgrow
  clear y0 y1 y2 hl hgrow H1
  clear hown
  have y0 := blk_cell H2.hd 0
  have y1 := blk_cell H2.hd 1
  have y2 := blk_cell H2.hd 2
  have hl := blk_lt H2.hd
  go_wp2_with (at_builtin; refine wpList_append_lies _ rfl (.tmp 51) (.tmp 55) 36 rfl (w.heap.size + 1) 5 i0 (.int .u8 0) 1 1 Tryd.underlying36 hi hz0 hz1 hz2 rfl (by decide) _ 3 _ rfl (H2.own.alloc _) ⟨w3.heap.size, 0, none⟩ 1 1 [.int .u8 (k / 256 % 256 : Nat)] rfl rfl ?c1 ?c2 (by decide) ?c3 ?c4 ?c5 (w3.heap.size + 1) ?c6 ?_)
  case c1 => exact news_one _ (congrArg (Value.int .u8) (by omega)) _
  case c2 => intro u hu; simp at hu; subst hu; rfl
  case c3 => decide
  case c4 => decide
  case c5 => simp; omega
  case c6 => simp
  intro g4 cap4 w4 hown hgrow _ _
  have H3 := H2.step hown hgrow
  clear y0 y1 y2 hl hgrow H2
  clear hown
  have y0 := blk_cell H3.hd 0
  have y1 := blk_cell H3.hd 1
  have y2 := blk_cell H3.hd 2
  have hl := blk_lt H3.hd
  go_wp2_with (at_builtin; refine wpList_append_lies _ rfl (.tmp 57) (.tmp 60) 36 rfl (w.heap.size + 1) 5 i0 (.int .u8 0) 1 1 Tryd.underlying36 hi hz0 hz1 hz2 rfl (by decide) _ 4 _ rfl (H3.own.alloc _) ⟨w4.heap.size, 0, none⟩ 1 1 [.int .u8 (k % 256 : Nat)] rfl rfl ?c1 ?c2 (by decide) ?c3 ?c4 ?c5 (w4.heap.size + 1) ?c6 ?_)
  case c1 => exact news_one _ (congrArg (Value.int .u8) (by omega)) _
  case c2 => intro u hu; simp at hu; subst hu; rfl
  case c3 => decide
  case c4 => decide
  case c5 => simp; omega
  case c6 => simp
  intro g5 cap5 w5 hown hgrow _ _
  have H4 := H3.step hown hgrow
  clear y0 y1 y2 hl hgrow H3
  go_wp2_with fail
  go_ret
  exact ⟨g5, cap5, rfl, hown, H4.bel⟩
end Go.Proofs.YtfcnbdhpdpcmgaaDoor
