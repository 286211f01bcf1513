import Derived.Test.YtfcnbdhpdpcmgaaDoorYk
import Derived.Deep.RegionLaw
import Derived.LoopN
namespace Go.Proofs.YtfcnbdhpdpcmgaaDoor
open Go.RowKit
theorem Tryd.infoItem : (Tryd.prog.info? 28).map (fun i => (i.zero, i.size, i.bytes)) = some (some (.agg #[.int .i64 0, .int .u64 0, .string ⟨#[]⟩]), 3, 32) := by kernel_rfl
theorem Tryd.infoInt : (Tryd.prog.info? 3).map (fun i => (i.zero, i.size, i.bytes)) = some (some (.int .i64 0), 1, 8) := by kernel_rfl
theorem set2a {w : World} {H : Nat} {a b : Value} {t : TypeId} (hz : w.heap[H]? = some (.cells #[a, b] t)) (x : Value) : (w.setCell ⟨H, 0, none⟩ x).heap[H]? = some (.cells #[x, b] t) := by
  simp [World.setCell, Array.getElem?_modify, hz]
theorem set2b {w : World} {H : Nat} {a b : Value} {t : TypeId} (hz : w.heap[H]? = some (.cells #[a, b] t)) (x : Value) : (w.setCell ⟨H, 1, none⟩ x).heap[H]? = some (.cells #[a, x] t) := by
  simp [World.setCell, Array.getElem?_modify, hz]
/-- one item as cells -/
abbrev itC (n : Nat) : List Value := [.int .i64 8, .int .u64 n, .string ⟨#[]⟩]
theorem grow_kept {w2 w3 : World} {o : Obj} {b : Nat} {x : Obj} (hg : (w2.alloc o).drew.grownBy w3 (Value.slice none 0 0).ownBlock) (hz : w2.heap[b]? = some x) : w3.heap[b]? = some x := by
  have hl := blk_lt hz
  refine (hg.block b (by show b < (w2.heap.push o).size; simp; omega) (by intro c; cases c)).trans ?_
  show (w2.heap.push o)[b]? = _
  rw [Array.getElem?_push, if_neg (by omega)]; exact hz
theorem grow_kept0 {w2 w3 : World} {o : Obj} {b : Nat} {x : Obj} (hg : (w2.alloc o).grownBy w3 (Value.slice none 0 0).ownBlock) (hz : w2.heap[b]? = some x) : w3.heap[b]? = some x := by
  have hl := blk_lt hz
  refine (hg.block b (by show b < (w2.heap.push o).size; simp; omega) (by intro c; cases c)).trans ?_
  show (w2.heap.push o)[b]? = _
  rw [Array.getElem?_push, if_neg (by omega)]; exact hz
theorem grow_below0 {n : Nat} {w0 w2 w3 : World} {o : Obj} (hg : (w2.alloc o).grownBy w3 (Value.slice none 0 0).ownBlock) (hb : Below n w0 w2) (hn : n ≤ w2.heap.size) : Below n w0 w3 :=
  below_grown (hb.alloc hn o) hg (fun _ c => by cases c) (by show n ≤ (w2.heap.push o).size; simp; omega)
theorem own_below {w w' : World} {base n size : Nat} {e : TypeId} {v : Value} {xs : List Value} (h : w.ownsRow base e size v n xs) (hb : Below w.heap.size w w') : w'.ownsRow base e size v n xs :=
  h.kept (row := none) ⟨hb.os, hb.tape, hb.output, hb.size, fun k hk _ => hb.block k hk⟩ (by
    by_cases hv : v.ownBlock = none
    · exact .inl hv
    · exact .inr hv)
theorem grow_below {n : Nat} {w0 w2 w3 : World} {o : Obj} (hg : (w2.alloc o).drew.grownBy w3 (Value.slice none 0 0).ownBlock) (hb : Below n w0 w2) (hn : n ≤ w2.heap.size) : Below n w0 w3 :=
  below_grown ((hb.alloc hn o).drew) hg (fun _ c => by cases c) (by show n ≤ (w2.heap.push o).size; simp; omega)
/-- behind a growth that writes no old block -/
theorem Gr.grow {pb : Nat} {w w1 w2 : World} (h : Gr pb w w1) {r : Option Nat} (hr : r = none) (hb : w1.grownBy w2 r) : Gr pb w w2 :=
  ⟨hb.os.trans h.os, hb.tape.trans h.tape, hb.output.trans h.output, Nat.le_trans h.size hb.size, fun k hk h1 => (hb.block k (Nat.lt_of_lt_of_le hk h.size) (by rw [hr]; simp)).trans (h.block k hk h1)⟩
theorem Gr.drew {pb : Nat} {w w1 : World} (h : Gr pb w w1) : Gr pb w w1.drew := ⟨h.os, h.tape, h.output, h.size, h.block⟩
set_option maxRecDepth 100000 in
theorem y_nextL (pb b off cap n : Nat) (w0 w : World) (h0 : Tabs w0) (hbel : Below w0.heap.size w0 w) (hpb : w0.heap.size ≤ pb) (hn : n < 18446744073709551616) (he : n / 4503599627370496 % 2048 ≤ 2046) (hc : 1 ≤ cap)
    (hz : w.heap[pb]? = some (.cells #[.slice (some ⟨b, off, none⟩) 1 cap] 45))
    (i0 : w.cell? ⟨b, off, none⟩ = some (.int .i64 8)) (i1 : w.cell? ⟨b, off + 1, none⟩ = some (.int .u64 n)) (i2 : w.cell? ⟨b, off + 2, none⟩ = some (str [])) :
    Calls Tryd.prog 19 #[.slice none 0 0, .iface 43 (.pointer (some ⟨pb, 0, none⟩)), .int .i64 1] w fun e w' => Gr pb w w' ∧
      (∃ a c, w'.heap[pb]? = some (.cells #[.slice a 0 c] 45)) ∧
      ∃ g cap, e = .returned (.tuple #[.slice (some ⟨g, 0, none⟩) 1 cap, .int .i64 0]) ∧ w'.ownsRow (w.heap.size + 1) 28 3 (.slice (some ⟨g, 0, none⟩) 1 cap) 1 (itC n) := by
  have h := h0.below hbel
  have h3 : 3 ≤ w0.heap.size := h0.lt
  have hlp := blk_lt hz
  obtain ⟨j0, hj, hj0, hj1, hj2⟩ := info_parts Tryd.infoItem
  go_enter Tryd.func19, Tryd.ntmps19
  go_wp2_with fail
  refine (y_lNext pb b off cap n w h hn he hc (by omega) hz i0 i1 i2).mono ?_
  rintro e w1 ⟨rfl, hg1, a1, c1, hz1⟩
  have hs1 := hg1.size
  clear hz i0 i1 i2 h hbel
  go_upto_region 4 with fail
  have b2 : Below w1.heap.size w1 (w1.alloc (.cells #[.int .i64 8, .int .u64 n, .string ⟨#[]⟩] 28)) := (Below.refl _ _).alloc (Nat.le_refl _) _
  have zi2 := blk_new w1 (.cells #[.int .i64 8, .int .u64 n, .string ⟨#[]⟩] 28)
  generalize w1.alloc (.cells #[.int .i64 8, .int .u64 n, .string ⟨#[]⟩] 28) = w2 at *
  have hz2 := blk_below hz1 b2
  have hg2 : Gr pb w w2 := hg1.trans (Gr.below b2)
  have hs2 : w.heap.size + 1 ≤ w2.heap.size := by have := blk_lt zi2; omega
  clear hz1 hg1 b2
  have y0 := blk_cell zi2 0
  have y1 := blk_cell zi2 1
  have y2 := blk_cell zi2 2
  have nw : ∀ (j : Nat) (u : Value), (itC n)[j]? = some u → (w2.alloc (.cells #[.int .i64 8, .int .u64 n, .string ⟨#[]⟩] 28)).cell? ((⟨w2.heap.size, 0, none⟩ : Addr).add j) = some u := World.news_of_block (blk_new w2 (.cells #[.int .i64 8, .int .u64 n, .string ⟨#[]⟩] 28))
  have Hnw : Hid (∀ (j : Nat) (u : Value), (itC n)[j]? = some u → (w2.alloc (.cells #[.int .i64 8, .int .u64 n, .string ⟨#[]⟩] 28)).cell? ((⟨w2.heap.size, 0, none⟩ : Addr).add j) = some u) := nw
  clear nw
  go_wp2_with (at_builtin; refine wpList_append_lies _ rfl (.tmp 19) (.tmp 21) 22 rfl (w.heap.size + 1) 28 j0 (.agg #[.int .i64 0, .int .u64 0, .string ⟨#[]⟩]) 3 32 Tryd.underlying22 hj hj0 hj1 hj2 rfl (by decide) (.slice none 0 0) 0 [] rfl (World.ownsRow_nil _ _ _ _) ⟨w2.heap.size, 0, none⟩ 1 1 (itC n) rfl rfl ?c1 ?c2 (by decide) ?c3 ?c4 ?c5 (w2.heap.size + 1) ?c6 ?_)
  case c1 => exact Hnw.out
  case c2 => intro u hu; simp at hu; rcases hu with rfl | rfl | rfl <;> rfl
  case c3 => decide
  case c4 => decide
  case c5 => simp; omega
  case c6 => simp
  intro g3 cap3 w3 hown hgrow _ hlt
  have zi3 := grow_kept0 hgrow zi2
  have hz3 := grow_kept0 hgrow hz2
  have hg3 := (hg2.alloc _).grow rfl hgrow
  clear y0 y1 y2 zi2 hz2 hg2 Hnw
  have y0 := blk_cell zi3 0
  have y1 := blk_cell zi3 1
  have y2 := blk_cell zi3 2
  go_wp2_with fail
  refine (y_inside n _).mono ?_
  rintro e w4 ⟨rfl, hb4⟩
  have hz4 := blk_below hz3 hb4
  have own4 := own_below hown hb4
  have hg4 := hg3.trans (Gr.below hb4)
  go_wp2_with fail
  refine wp_loop_rounds 1 ?_
  rw [rounds_succ]
  go_wp2_with fail
  go_ret2
  exact ⟨hg4, ⟨a1, c1, hz4⟩, g3, cap3, rfl, own4⟩
end Go.Proofs.YtfcnbdhpdpcmgaaDoor
