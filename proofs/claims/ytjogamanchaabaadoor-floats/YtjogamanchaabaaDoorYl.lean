import Derived.Test.YtjogamanchaabaaDoorYk
import Derived.Deep.RegionLaw
import Derived.LoopN
namespace Go.Proofs.YtjogamanchaabaaDoor
open Go.RowKit
theorem Tryd.infoItem : (Tryd.prog.info? 28).map (fun i => (i.zero, i.size, i.bytes)) = some (some (.agg #[.int .i64 0, .int .u64 0, .string ⟨#[]⟩]), 3, 32) := by kernel_rfl
theorem Tryd.infoInt : (Tryd.prog.info? 3).map (fun i => (i.zero, i.size, i.bytes)) = some (some (.int .i64 0), 1, 8) := by kernel_rfl
theorem set2a {w : World} {H : Nat} {a b : Value} {t : TypeId} (hz : w.heap[H]? = some (.cells #[a, b] t)) (x : Value) : (w.setCell ⟨H, 0, none⟩ x).heap[H]? = some (.cells #[x, b] t) := by
  simp [World.setCell, Array.getElem?_modify, hz]
theorem set2b {w : World} {H : Nat} {a b : Value} {t : TypeId} (hz : w.heap[H]? = some (.cells #[a, b] t)) (x : Value) : (w.setCell ⟨H, 1, none⟩ x).heap[H]? = some (.cells #[a, x] t) := by
  simp [World.setCell, Array.getElem?_modify, hz]
/-- one item as cells -/
abbrev itC (n : Nat) : List Value := [.int .i64 8, .int .u64 n, .string ⟨#[]⟩]
theorem grow_kept {w2 w3 : World} {o : Obj} {b : Nat} {x : Obj} (hg : (w2.alloc o).drew.grownBy w3 (Value.slice none 0 0).ownBlock) (hz : w2.heap[b]? = some x) : w3.heap[b]? = some x := by
  have hl := blk_lt hz
  refine (hg.block b (by show b < (w2.heap.push o).size; simp; omega) (by intro c; cases c)).trans ?_
  show (w2.heap.push o)[b]? = _
  rw [Array.getElem?_push, if_neg (by omega)]; exact hz
theorem grow_kept0 {w2 w3 : World} {o : Obj} {b : Nat} {x : Obj} (hg : (w2.alloc o).grownBy w3 (Value.slice none 0 0).ownBlock) (hz : w2.heap[b]? = some x) : w3.heap[b]? = some x := by
  have hl := blk_lt hz
  refine (hg.block b (by show b < (w2.heap.push o).size; simp; omega) (by intro c; cases c)).trans ?_
  show (w2.heap.push o)[b]? = _
  rw [Array.getElem?_push, if_neg (by omega)]; exact hz
theorem grow_below0 {n : Nat} {w0 w2 w3 : World} {o : Obj} (hg : (w2.alloc o).grownBy w3 (Value.slice none 0 0).ownBlock) (hb : Below n w0 w2) (hn : n ≤ w2.heap.size) : Below n w0 w3 :=
  below_grown (hb.alloc hn o) hg (fun _ c => by cases c) (by show n ≤ (w2.heap.push o).size; simp; omega)
theorem own_below {w w' : World} {base n size : Nat} {e : TypeId} {v : Value} {xs : List Value} (h : w.ownsRow base e size v n xs) (hb : Below w.heap.size w w') : w'.ownsRow base e size v n xs :=
  h.kept (row := none) ⟨hb.os, hb.tape, hb.output, hb.size, fun k hk _ => hb.block k hk⟩ (by
    by_cases hv : v.ownBlock = none
    · exact .inl hv
    · exact .inr hv)
theorem grow_below {n : Nat} {w0 w2 w3 : World} {o : Obj} (hg : (w2.alloc o).drew.grownBy w3 (Value.slice none 0 0).ownBlock) (hb : Below n w0 w2) (hn : n ≤ w2.heap.size) : Below n w0 w3 :=
  below_grown ((hb.alloc hn o).drew) hg (fun _ c => by cases c) (by show n ≤ (w2.heap.push o).size; simp; omega)
/-- nothing old is written but two blocks -/
structure Gr2 (a b : Nat) (w w' : World) : Prop where
  os : w'.os = w.os
  tape : w'.tape = w.tape
  output : w'.output = w.output
  size : w.heap.size ≤ w'.heap.size
  block : ∀ k, k < w.heap.size → k ≠ a → k ≠ b → w'.heap[k]? = w.heap[k]?
theorem Gr2.of_gr {a b : Nat} {w w' : World} (h : Gr b w w') : Gr2 a b w w' := ⟨h.os, h.tape, h.output, h.size, fun k hk _ hb => h.block k hk (by simpa using hb)⟩
theorem Gr2.below {a b : Nat} {w w1 w2 : World} (h : Gr2 a b w w1) (hb : Below w1.heap.size w1 w2) : Gr2 a b w w2 :=
  ⟨hb.os.trans h.os, hb.tape.trans h.tape, hb.output.trans h.output, Nat.le_trans h.size hb.size, fun k hk h1 h2 => (hb.block k (Nat.lt_of_lt_of_le hk h.size)).trans (h.block k hk h1 h2)⟩
theorem Gr2.grow {a b : Nat} {w w1 w2 : World} (h : Gr2 a b w w1) {r : Option Nat} (hr : r = none) (hb : w1.grownBy w2 r) : Gr2 a b w w2 :=
  ⟨hb.os.trans h.os, hb.tape.trans h.tape, hb.output.trans h.output, Nat.le_trans h.size hb.size, fun k hk h1 h2 => (hb.block k (Nat.lt_of_lt_of_le hk h.size) (by rw [hr]; simp)).trans (h.block k hk h1 h2)⟩
theorem Gr2.set {a b : Nat} {w w1 : World} (h : Gr2 a b w w1) {p : Nat} (hp : p = a ∨ w.heap.size ≤ p) (o : Nat) (x : Value) : Gr2 a b w (w1.setCell ⟨p, o, none⟩ x) :=
  ⟨h.os, h.tape, h.output, by simp; exact h.size, fun k hk h1 h2 => (heap_set_far (by omega)).trans (h.block k hk h1 h2)⟩
theorem Gr2.drew {a b : Nat} {w w1 : World} (h : Gr2 a b w w1) : Gr2 a b w w1.drew := ⟨h.os, h.tape, h.output, h.size, h.block⟩
theorem Gr2.alloc {a b : Nat} {w w1 : World} (h : Gr2 a b w w1) (o : Obj) : Gr2 a b w (w1.alloc o) := h.below ((Below.refl _ _).alloc (Nat.le_refl _) _)
theorem Gr2.to {a b n : Nat} {w0 w w' : World} (h : Gr2 a b w w') (hb : Below n w0 w) (ha : n ≤ a) (hb' : n ≤ b) (hn : n ≤ w.heap.size) : Below n w0 w' :=
  ⟨h.os.trans hb.os, h.tape.trans hb.tape, h.output.trans hb.output, Nat.le_trans hb.size h.size, fun k hk => (h.block k (by omega) (by omega) (by omega)).trans (hb.block k hk)⟩
set_option maxRecDepth 100000 in
theorem y_takeL (vb pb b off cap n : Nat) (w0 w : World) (h0 : Tabs w0) (hbel : Below w0.heap.size w0 w) (hpb : w0.heap.size ≤ pb) (hne : vb ≠ pb) (hn : n < 18446744073709551616) (he : n / 4503599627370496 % 2048 ≤ 2046) (hc : 1 ≤ cap)
    (hv : w.heap[vb]? = some (.cells #[.slice none 0 0, .slice none 0 0] 43))
    (hz : w.heap[pb]? = some (.cells #[.slice (some ⟨b, off, none⟩) 1 cap] 48))
    (i0 : w.cell? ⟨b, off, none⟩ = some (.int .i64 8)) (i1 : w.cell? ⟨b, off + 1, none⟩ = some (.int .u64 n)) (i2 : w.cell? ⟨b, off + 2, none⟩ = some (str [])) :
    Calls Tryd.prog 19 #[.pointer (some ⟨vb, 0, none⟩), .iface 46 (.pointer (some ⟨pb, 0, none⟩)), .int .i64 1] w fun e w' => e = .returned (.int .i64 0) ∧ Gr2 vb pb w w' ∧
      (∃ a c, w'.heap[pb]? = some (.cells #[.slice a 0 c] 48)) ∧
      ∃ g cap g2 cap2, w'.heap[vb]? = some (.cells #[.slice (some ⟨g, 0, none⟩) 1 cap, .slice (some ⟨g2, 0, none⟩) 1 cap2] 43) ∧ w'.ownsRow (w.heap.size + 1) 28 3 (.slice (some ⟨g, 0, none⟩) 1 cap) 1 (itC n) := by
  have h := h0.below hbel
  have h3 : 3 ≤ w0.heap.size := h0.lt
  have hlv := blk_lt hv
  have hlp := blk_lt hz
  obtain ⟨j0, hj, hj0, hj1, hj2⟩ := info_parts Tryd.infoItem
  obtain ⟨k0, hk, hk0, hk1, hk2⟩ := info_parts Tryd.infoInt
  go_enter Tryd.func19, Tryd.ntmps19
  go_wp2_with fail
  refine (y_lNext pb b off cap n w h hn he hc (by omega) hz i0 i1 i2).mono ?_
  rintro e w1 ⟨rfl, hg1, a1, c1, hz1⟩
  have hv1 := (hg1.block vb hlv (by simpa using hne)).trans hv
  have hb1 : Gr2 vb pb w w1 := Gr2.of_gr hg1
  have hs1 := hg1.size
  clear hz i0 i1 i2 hv h hbel hg1
  go_upto_region 4 with fail
  have b2 : Below w1.heap.size w1 (w1.alloc (.cells #[.int .i64 8, .int .u64 n, .string ⟨#[]⟩] 28)) := (Below.refl _ _).alloc (Nat.le_refl _) _
  have zi2 := blk_new w1 (.cells #[.int .i64 8, .int .u64 n, .string ⟨#[]⟩] 28)
  generalize w1.alloc (.cells #[.int .i64 8, .int .u64 n, .string ⟨#[]⟩] 28) = w2 at *
  have hv2 := blk_below hv1 b2
  have hz2 := blk_below hz1 b2
  have hb2 := hb1.below b2
  have hs2 : w.heap.size + 1 ≤ w2.heap.size := by have := blk_lt zi2; omega
  clear hv1 hz1 hb1 b2
  have hlv2 := blk_lt hv2
  have hli2 := blk_lt zi2
  have x0 := blk_cell hv2 0
  have x1 := blk_cell hv2 1
  have xf := blk_frozen hv2
  have y0 := blk_cell zi2 0
  have y1 := blk_cell zi2 1
  have y2 := blk_cell zi2 2
  have nw : ∀ (j : Nat) (u : Value), (itC n)[j]? = some u → (w2.drew.alloc (.cells #[.int .i64 8, .int .u64 n, .string ⟨#[]⟩] 28)).cell? ((⟨w2.heap.size, 0, none⟩ : Addr).add j) = some u := World.news_of_block (blk_new w2.drew (.cells #[.int .i64 8, .int .u64 n, .string ⟨#[]⟩] 28))
  have Hnw : Hid (∀ (j : Nat) (u : Value), (itC n)[j]? = some u → (w2.drew.alloc (.cells #[.int .i64 8, .int .u64 n, .string ⟨#[]⟩] 28)).cell? ((⟨w2.heap.size, 0, none⟩ : Addr).add j) = some u) := nw
  clear nw
  go_upto_region 5 with fail
  go_cut [25] (fun _ wx => ∃ g cap, wx.heap[vb]? = some (.cells #[.slice (some ⟨g, 0, none⟩) 1 cap, .slice none 0 0] 43) ∧ wx.ownsRow (w.heap.size + 1) 28 3 (.slice (some ⟨g, 0, none⟩) 1 cap) 1 (itC n) ∧ Gr2 vb pb w wx ∧ wx.heap[pb]? = some (.cells #[.slice a1 0 c1] 48) ∧ wx.heap[w1.heap.size]? = some (.cells #[.int .i64 8, .int .u64 n, .string ⟨#[]⟩] 28) ∧ w.heap.size + 1 ≤ wx.heap.size)
  case first =>
    go_region_law (refine step_append_lies _ rfl (.tmp 29) (.tmp 31) 22 rfl (w.heap.size + 1) 28 j0 (.agg #[.int .i64 0, .int .u64 0, .string ⟨#[]⟩]) 3 32 Tryd.underlying22 hj hj0 hj1 hj2 rfl (by decide) (.slice none 0 0) 0 [] (by simp [Act.eval]) (World.ownsRow_nil _ _ _ _) ⟨w2.heap.size, 0, none⟩ 1 1 (itC n) (by simp [Act.eval]) rfl Hnw.out (by intro u hu; simp at hu; rcases hu with rfl | rfl | rfl <;> rfl) (by decide) (by decide) (by decide) (by simp; omega) (w2.heap.size + 1) (by simp) ?_; intro g3 cap3 w3 hown hgrow hgo hlt; have hv3 := grow_kept hgrow hv2; have xx0 := blk_cell hv3 0; have xx1 := blk_cell hv3 1; have xxf := blk_frozen hv3)
    all_goals go_wp2_with fail
    all_goals go_meet
    all_goals refine ⟨g3, cap3, set2a hv3 _, ownsRow_setCell_below hown (by show vb < _; omega) _, ((hb2.alloc _).drew.grow rfl hgrow).set (.inl rfl) _ _, (heap_set_far hne).trans (grow_kept hgrow hz2), (heap_set_far (by omega)).trans (grow_kept hgrow zi2), ?_⟩
    all_goals (have := hgrow.size; simp at this ⊢; omega)
  case rest =>
    obtain ⟨g, gc, hv3, own3, hb3, hz3, zi3, hs3⟩ := hcut
    clear x0 x1 xf y0 y1 y2 hv2 hz2 zi2 hb2 Hnw hlv2 hli2
    have x0 := blk_cell hv3 0
    have x1 := blk_cell hv3 1
    have xf := blk_frozen hv3
    have y0 := blk_cell zi3 0
    have y1 := blk_cell zi3 1
    have y2 := blk_cell zi3 2
    have hl3 := blk_lt hv3
    have hi3 := blk_lt zi3
    go_wp2_with (at_builtin; refine wpList_append_lies _ rfl (.tmp 39) (.tmp 41) 35 rfl wc.heap.size 3 k0 (.int .i64 0) 1 8 Tryd.underlying35 hk hk0 hk1 hk2 rfl (by decide) (.slice none 0 0) 0 [] rfl (World.ownsRow_nil _ _ _ _) ⟨wc.heap.size, 0, none⟩ 1 1 [.int .i64 0] rfl rfl ?c1 ?c2 (by decide) ?c3 ?c4 ?c5 (wc.heap.size + 1) ?c6 ?_)
    case c1 => exact news_one _ rfl _
    case c2 => intro u hu; simp at hu; subst hu; rfl
    case c3 => decide
    case c4 => decide
    case c5 => simp
    case c6 => simp
    intro g4 gc4 w4 hown4 hgrow4 _ hlg4
    have hv4 := grow_kept0 hgrow4 hv3
    have hz4 := grow_kept0 hgrow4 hz3
    have zi4 := grow_kept0 hgrow4 zi3
    have hb4 := (hb3.alloc _).grow rfl hgrow4
    have own4 := (own3.alloc (.cells #[.int .i64 0] 3)).kept hgrow4 (.inr (by simp [Value.ownBlock]))
    have hg3 := (own3.lt g rfl)
    have hg4 := (hown4.lt g4 rfl)
    have he4 := hown4.cells (g := g4) rfl 0 (.int .i64 0) rfl
    have hf4 : w4.frozen? ⟨g4, 0, none⟩ = false := by
      obtain ⟨_, hx | ⟨gg, cc, cur, hx, _, hh, _⟩⟩ := hown4
      · exact absurd hx.1 (by simp)
      · simp only [Value.slice.injEq, Option.some.injEq, Addr.mk.injEq] at hx
        obtain ⟨⟨rfl, _⟩, _⟩ := hx
        exact blk_frozen hh 0
    have hs4 := hgrow4.size
    simp at hs4
    clear x0 x1 xf y0 y1 y2 hv3 hz3 zi3 hb3 own3 hgrow4 hown4
    have x0 := blk_cell hv4 0
    have x1 := blk_cell hv4 1
    have xf := blk_frozen hv4
    go_upto_region 7 with fail
    have hv5 := set2b hv4 (.slice (some ⟨g4, 0, none⟩) 1 gc4)
    have hz5 := (heap_set_far (w := w4) (o := 1) (x := .slice (some ⟨g4, 0, none⟩) 1 gc4) hne).trans hz4
    have zi5 := (heap_set_far (w := w4) (p := vb) (o := 1) (x := .slice (some ⟨g4, 0, none⟩) 1 gc4) (by omega)).trans zi4
    have hb5 := hb4.set (.inl rfl) 1 (.slice (some ⟨g4, 0, none⟩) 1 gc4)
    have own5 := ownsRow_setCell_below own4 (a := ⟨vb, 1, none⟩) (by show vb < _; omega) (.slice (some ⟨g4, 0, none⟩) 1 gc4)
    have he5 : (w4.setCell ⟨vb, 1, none⟩ (.slice (some ⟨g4, 0, none⟩) 1 gc4)).cell? ⟨g4, 0, none⟩ = some (.int .i64 0) := by
      rw [World.cell?_setCell_other _ _ _ _ (by simp)]; exact he4
    have hf5 : (w4.setCell ⟨vb, 1, none⟩ (.slice (some ⟨g4, 0, none⟩) 1 gc4)).frozen? ⟨g4, 0, none⟩ = false := by
      rw [World.frozen?_setCell]; exact hf4
    clear x0 x1 xf hv4 hz4 zi4 hb4 own4 he4 hf4
    have hs5 : (w4.setCell ⟨vb, 1, none⟩ (.slice (some ⟨g4, 0, none⟩) 1 gc4)).heap.size = w4.heap.size := by simp
    generalize w4.setCell ⟨vb, 1, none⟩ (.slice (some ⟨g4, 0, none⟩) 1 gc4) = w5 at *
    have y0 := blk_cell zi5 0
    have y1 := blk_cell zi5 1
    have y2 := blk_cell zi5 2
    go_wp2_with fail
    refine (y_inside n _).mono ?_
    rintro e w6 ⟨rfl, hb6⟩
    have hv6 := blk_below hv5 hb6
    have hz6 := blk_below hz5 hb6
    have own6 := own_below own5 hb6
    have he6 : w6.cell? ⟨g4, 0, none⟩ = some (.int .i64 0) := ((bcell hb6).1 g4 0 (by omega)).trans he5
    have hf6 : w6.frozen? ⟨g4, 0, none⟩ = false := ((bcell hb6).2 g4 0 (by omega)).trans hf5
    have hbb6 := hb5.below hb6
    clear y0 y1 y2 hv5 hz5 own5 he5 hf5 hb5 zi5 hb6
    have x0 := blk_cell hv6 0
    have x1 := blk_cell hv6 1
    go_wp2_with fail
    refine wp_loop_rounds 1 ?_
    rw [rounds_succ]
    go_wp2_with fail
    go_region
    all_goals go_wp2_with fail
    all_goals go_ret
    all_goals refine ⟨rfl, (hbb6.set (.inr (by omega)) _ _).drew, ⟨a1, c1, (heap_set_far (by omega)).trans hz6⟩, g, gc, g4, gc4, (heap_set_far (by omega)).trans hv6, ?_⟩
    all_goals exact own6.kept (row := some g4) ⟨rfl, rfl, rfl, by show _ ≤ (World.setCell _ _ _).heap.size; simp, fun k _ hk => heap_set_far (by intro c; exact hk (by rw [c]))⟩ (.inr (by simp [Value.ownBlock]; omega))
end Go.Proofs.YtjogamanchaabaaDoor
