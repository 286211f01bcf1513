import Derived.Test.YtfcnbdhpdpcmgaaDoorYg
import Derived.LoopN
namespace Go.Proofs.YtfcnbdhpdpcmgaaDoor
open Go.RowKit
/-- a head as a value -/
abbrev headV (k t n : Nat) : Value := .agg #[.int .u8 k, .int .u8 t, .int .u64 n]
/-- a number of 64 bits that has an exponent, and the text of its shortest form, of 16 or of 32 bits -/
structure Fl (n : Nat) (t k : Nat) : Prop where
  lt : n < 18446744073709551616
  e1 : 1 ≤ n / 4503599627370496 % 2048
  e2 : n / 4503599627370496 % 2048 ≤ 2046
  is : (t = 25 ∧ Sg.packed 5 10 n = some k) ∨ (t = 26 ∧ Sg.packed 5 10 n = none ∧ Sg.packed 8 23 n = some k)
theorem blk_new (w : World) (o : Obj) : (w.alloc o).heap[w.heap.size]? = some o := by
  show (w.heap.push _)[w.heap.size]? = _
  simp
theorem blk_cell {w : World} {b : Nat} {cs : Array Value} {t : TypeId} (h : w.heap[b]? = some (.cells cs t)) (i : Nat) : w.cell? ⟨b, i, none⟩ = cs[i]? := by
  unfold World.cell?; simp only [h]; rfl
theorem blk_frozen {w : World} {b : Nat} {cs : Array Value} {t : TypeId} (h : w.heap[b]? = some (.cells cs t)) (i : Nat) : w.frozen? ⟨b, i, none⟩ = false := by
  unfold World.frozen?; simp only [h]; simp
theorem blk_lt {w : World} {b : Nat} {o : Obj} (h : w.heap[b]? = some o) : b < w.heap.size := by
  rcases Nat.lt_or_ge b w.heap.size with h1 | h1
  · exact h1
  · rw [Array.getElem?_eq_none h1] at h; cases h
theorem blk_below {w w' : World} {b : Nat} {o : Obj} (h : w.heap[b]? = some o) (hb : Below w.heap.size w w') : w'.heap[b]? = some o := (hb.block b (blk_lt h)).trans h
theorem set3 {w : World} {H : Nat} {a b c : Value} {t : TypeId} (hz : w.heap[H]? = some (.cells #[a, b, c] t)) (x y z : Value) :
    (((w.setCell ⟨H, 0, none⟩ x).setCell ⟨H, 1, none⟩ y).setCell ⟨H, 2, none⟩ z).heap[H]? = some (.cells #[x, y, z] t) := by
  simp [World.setCell, Array.getElem?_modify, hz]
theorem bel_set {w0 w : World} {H : Nat} (h : Below w0.heap.size w0 w) (hH : w0.heap.size ≤ H) (o : Nat) (x : Value) : Below w0.heap.size w0 (w.setCell ⟨H, o, none⟩ x) := Below.setCell (p := ⟨H, o, none⟩) h hH x
theorem y_isFinite (n : Nat) (w : World) (h : Tabs w) (hn : n < 18446744073709551616) (he : n / 4503599627370496 % 2048 ≤ 2046) : Calls Tryd.prog 35 #[.int .u64 n] w fun e w' => e = .returned (.bool true) ∧ Below w.heap.size w w' := by
  go_enter Tryd.func35, Tryd.ntmps35
  obtain ⟨_, t0, t1, _, _, _, _⟩ := id h
  go_wp2_with fail
  refine (y_split11 n _ hn).mono ?_
  rintro e w1 ⟨rfl, hb1⟩
  have h1 := h.below hb1
  clear t0 t1
  obtain ⟨_, t0, t1, _, _, _, _⟩ := id h1
  generalize n / 4503599627370496 % 2048 = E at *
  have b1 : ((E : Int) == 2047) = false := by simp; omega
  go_wp2_with fail
  refine (y_top11 _).mono ?_
  rintro e w2 ⟨rfl, hb2⟩
  go_wp2_with fail
  go_ret
  exact ⟨ret_bool (by simp; omega), hb1.trans (hb2.mono hb1.size)⟩
theorem y_mayBeFloat (n : Nat) (w : World) (h : Tabs w) (hn : n < 18446744073709551616) (he : n / 4503599627370496 % 2048 ≤ 2046) : Calls Tryd.prog 74 #[.int .u64 n] w fun e w' => e = .returned (.bool true) ∧ Below w.heap.size w w' := by
  go_enter Tryd.func74, Tryd.ntmps74
  obtain ⟨_, t0, t1, _, _, _, _⟩ := id h
  go_wp2_with fail
  refine (y_split11 n _ hn).mono ?_
  rintro e w1 ⟨rfl, hb1⟩
  have h1 := h.below hb1
  clear t0 t1
  go_wp2_with fail
  refine (y_isFinite n _ h1 hn he).mono ?_
  rintro e w2 ⟨rfl, hb2⟩
  go_wp2_with fail
  go_ret
  exact ⟨rfl, hb1.trans (hb2.mono hb1.size)⟩
abbrev narrowV : Value := .agg #[.int .i64 5, .int .i64 10, .int .i64 8, .int .i64 23]
theorem ix0 (w : World) : (Instr.index 77 narrowV (.int .i64 0)).run Tryd.prog w = .ok (lay 5 10) w := by kernel_rfl
theorem ix1 (w : World) : (Instr.index 77 narrowV (.int .i64 1)).run Tryd.prog w = .ok (lay 8 23) w := by kernel_rfl
set_option maxRecDepth 100000 in
theorem y_floatHead (n t k : Nat) (w : World) (h : Tabs w) (hf : Fl n t k) : Calls Tryd.prog 29 #[.int .u64 n] w fun e w' => e = .returned (headV 7 t k) ∧ Below w.heap.size w w' := by
  obtain ⟨hn, hE1, hE2, his⟩ := hf
  obtain ⟨s, es⟩ : ∃ s, n / 9223372036854775808 = s := ⟨_, rfl⟩
  obtain ⟨E, eE⟩ : ∃ E, n / 4503599627370496 % 2048 = E := ⟨_, rfl⟩
  obtain ⟨q, eq⟩ : ∃ q, n % 4503599627370496 = q := ⟨_, rfl⟩
  rw [eE] at hE1 hE2
  have hs : s < 2 := by omega
  have hq : q < 4503599627370496 := by omega
  have hnn : n = s * 9223372036854775808 + E * 4503599627370496 + q := by omega
  have c5 := fun w h => y_narrowed5 n s E q w h hn es eE eq hE1 hE2
  have c8 := fun w h => y_narrowed8 n s E q w h hn es eE eq hE1 hE2
  have v5 := fun w h => y_widened5 (Sg.narrow16 s E q) w h (Sg.narrow16_lt hs hE1 hq)
  have v8 := fun w h => y_widened8 (Sg.narrow32 s E q) w h (Sg.narrow32_lt hs hE1 hq)
  have f5 : (t = 25 ∧ Sg.narrow16 s E q = k ∧ Sg.widened 5 10 (Sg.narrow16 s E q) = n) ∨ (t = 26 ∧ Sg.widened 5 10 (Sg.narrow16 s E q) ≠ n ∧ Sg.narrow32 s E q = k ∧ Sg.widened 8 23 (Sg.narrow32 s E q) = n) := by
    rw [hnn] at his ⊢
    rcases his with ⟨ht, hp⟩ | ⟨ht, hp, hp2⟩
    · refine .inl ⟨ht, Sg.narrow16_some hs hE1 hE2 hq hp, ?_⟩
      rw [Sg.narrow16_some hs hE1 hE2 hq hp]
      exact (Sg.widened_packed_16 _ _ (by omega) hp).1
    · refine .inr ⟨ht, Sg.narrow16_none hs hE1 hq hp, Sg.narrow32_some hs hE1 hE2 hq hp2, ?_⟩
      rw [Sg.narrow32_some hs hE1 hE2 hq hp2]
      exact (Sg.widened_packed_32 _ _ (by omega) hp2).1
  generalize Sg.narrow16 s E q = A at *
  generalize Sg.narrow32 s E q = B at *
  generalize Sg.widened 5 10 A = A' at *
  generalize Sg.widened 8 23 B = B' at *
  clear his es eE eq hnn hs hq hE1 hE2
  go_enter Tryd.func29, Tryd.ntmps29
  go_upto_region 1 with fail
  have hz0 := blk_new w (.cells #[.int .u8 0, .int .u8 0, .int .u64 0] 53)
  have hb0 : Below w.heap.size w (w.alloc (.cells #[.int .u8 0, .int .u8 0, .int .u64 0] 53)) := (Below.refl _ _).alloc (Nat.le_refl _) _
  generalize w.alloc (.cells #[.int .u8 0, .int .u8 0, .int .u64 0] 53) = W at *
  have h0 := h.below hb0
  obtain ⟨_, t0, t1, _, _, _, _⟩ := id h0
  go_wp2_with fail
  go_loopw [7] (fun i wx => (i = .int .i64 0 ∨ (i = .int .i64 1 ∧ t = 26 ∧ B = k ∧ B' = n)) ∧ Below w.heap.size w wx ∧ Tabs wx ∧ wx.heap[w.heap.size]? = some (.cells #[.int .u8 0, .int .u8 0, .int .u64 0] 53)) (fun i _ => 2 - (intOf i).toNat)
  case atStart => exact ⟨.inl rfl, hb0, h0, hz0⟩
  case round =>
    obtain ⟨hi, hbr, hr, hzr⟩ := hrel
    have j0 := ix0
    have j1 := ix1
    rcases hi with rfl | ⟨rfl, rfl, rfl, rfl⟩
    · go_wp2_with fail
      have I0 := In.first 5 10 hr
      generalize wr.alloc (.cells #[.int .i64 5, .int .i64 10] 76) = W0 at *
      refine (c5 _ I0.tabs).mono ?_
      rintro e w1 ⟨rfl, hb1⟩
      have I1 := I0.next hb1
      clear I0 hb1
      obtain ⟨_, _, _, d0, d1⟩ := id I1
      go_wp2_with fail
      refine (v5 _ I1.tabs).mono ?_
      rintro e w2 ⟨rfl, hb2⟩
      have I2 := I1.next hb2
      have hz2 := blk_below hzr I2.bel
      have hbw2 := hbr.trans (I2.bel.mono hbr.size)
      have h2 := I2.tabs
      clear I1 d0 d1 hb2 I2
      rcases f5 with ⟨rfl, rfl, rfl⟩ | ⟨rfl, hne, rfl, rfl⟩
      · have y0 := blk_cell hz2 0
        have y1 := blk_cell hz2 1
        have y2 := blk_cell hz2 2
        have yf := blk_frozen hz2
        go_wp2_with fail
        (try simp only [Exit.inBlock, Exit.then])
        refine bodyPost_ret (results_cell_row (ty := 53) rfl _ _ w.heap.size _ _ _ _ rfl (set3 hz2 _ _ _) rfl rfl rfl) rfl ?_
        exact ⟨rfl, bel_set (bel_set (bel_set hbw2 (Nat.le_refl _) _ _) (Nat.le_refl _) _ _) (Nat.le_refl _) _ _⟩
      · have b1 : ((A' : Int) == (B' : Int)) = false := by simp; omega
        go_wp2_with fail
        go_round
        case rel => exact ⟨.inr ⟨rfl, by simp⟩, hbw2, h2, hz2⟩
        case measure => simp [intOf]
    · clear c5 v5 f5
      go_wp2_with fail
      have I0 := In.first 8 23 hr
      generalize wr.alloc (.cells #[.int .i64 8, .int .i64 23] 76) = W0 at *
      refine (c8 _ I0.tabs).mono ?_
      rintro e w1 ⟨rfl, hb1⟩
      have I1 := I0.next hb1
      clear I0 hb1
      obtain ⟨_, _, _, d0, d1⟩ := id I1
      go_wp2_with fail
      refine (v8 _ I1.tabs).mono ?_
      rintro e w2 ⟨rfl, hb2⟩
      have I2 := I1.next hb2
      have hz2 := blk_below hzr I2.bel
      have hbw2 := hbr.trans (I2.bel.mono hbr.size)
      have h2 := I2.tabs
      clear I1 d0 d1 hb2 I2
      have y0 := blk_cell hz2 0
      have y1 := blk_cell hz2 1
      have y2 := blk_cell hz2 2
      have yf := blk_frozen hz2
      go_wp2_with fail
      (try simp only [Exit.inBlock, Exit.then])
      refine bodyPost_ret (results_cell_row (ty := 53) rfl _ _ w.heap.size _ _ _ _ rfl (set3 hz2 _ _ _) rfl rfl rfl) rfl ?_
      exact ⟨rfl, bel_set (bel_set (bel_set hbw2 (Nat.le_refl _) _ _) (Nat.le_refl _) _ _) (Nat.le_refl _) _ _⟩
end Go.Proofs.YtfcnbdhpdpcmgaaDoor
