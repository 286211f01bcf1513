import Derived.Test.YtfcnbdhpdpcmgaaDoorYn
namespace Go.Proofs.YtfcnbdhpdpcmgaaDoor
open Go.RowKit
theorem conv_own {base g cap m : Nat} {w : World} (xs : List Int) (h : w.ownsRow base 5 1 (.slice (some ⟨g, 0, none⟩) m cap) m (xs.map (Value.int .u8))) (hm : xs.length = m) : (convert 36 9 (.slice (some ⟨g, 0, none⟩) m cap)).run Tryd.prog w = .ok (.string (strOfNums xs)) w := by
  have hc := h.cells (g := g) rfl
  refine run_convert_bytes_arg w 36 5 Tryd.underlying36 Tryd.underlying5 g 0 m cap xs hm ?_ 9 Tryd.underlying9
  intro i hi
  have := hc i (.int .u8 (xs.getD i 0)) (by simp [List.getElem?_eq_getElem (show i < xs.length by omega), List.getD])
  by_cases hi0 : i = 0
  · subst hi0; simpa [Addr.add] using this
  · simpa [Addr.add, hi0] using this
theorem own_cap {base g cap m : Nat} {w : World} {e : TypeId} {size : Nat} {xs : List Value} (h : w.ownsRow base e size (.slice (some ⟨g, 0, none⟩) m cap) m xs) : m ≤ cap := by
  obtain ⟨_, hx | ⟨gg, cc, cur, hx, _, _, hm, _⟩⟩ := h
  · exact absurd hx.1 (by simp)
  · simp only [Value.slice.injEq] at hx
    rw [hx.2.2]; exact hm
set_option maxRecDepth 100000 in
theorem y_written25 (base g cap n k : Nat) (w : World) (h0 : Tabs w) (hf : Fl n 25 k) (hk : k < 65536) (h : w.ownsRow base 28 3 (.slice (some ⟨g, 0, none⟩) 1 cap) 1 (itC n)) :
    Calls Tryd.prog 16 #[.slice (some ⟨g, 0, none⟩) 1 cap] w fun e w' => e = .returned (.tuple #[.string (strOfNums [(249 : Int), ((k / 256 : Nat) : Int), ((k % 256 : Nat) : Int)]), .int .i64 0]) ∧ Below w.heap.size w w' := by
  obtain ⟨hl, c0, c1, c2⟩ := own_cells h
  go_enter Tryd.func16, Tryd.ntmps16
  go_wp2_with fail
  go_loopw [4, 9] (fun o i wx => Below w.heap.size w wx ∧ ((i = .int .i64 0 ∧ o = .slice none 0 0) ∨ (i = .int .i64 1 ∧ ∃ base go gc, o = .slice (some ⟨go, 0, none⟩) 3 gc ∧ wx.ownsRow base 5 1 (.slice (some ⟨go, 0, none⟩) 3 gc) 3 [.int .u8 249, .int .u8 (k / 256 : Nat), .int .u8 (k % 256 : Nat)]))) (fun _ i _ => 2 - (intOf i).toNat)
  case atStart => exact ⟨Below.refl _ _, .inl ⟨rfl, rfl⟩⟩
  case round =>
    obtain ⟨hbr, hi⟩ := hrel
    have d0 := ((bcell hbr).1 g 0 hl).trans c0
    have d1 := ((bcell hbr).1 g 1 hl).trans c1
    have d2 := ((bcell hbr).1 g 2 hl).trans c2
    clear c0 c1 c2
    rcases hi with ⟨rfl, rfl⟩ | ⟨rfl, bo, go, gc, rfl, own⟩
    · go_wp2_with fail
      have zi := blk_new wr (.cells #[.int .i64 8, .int .u64 n, .string ⟨#[]⟩] 28)
      have hb1 := hbr.alloc hbr.size (.cells #[.int .i64 8, .int .u64 n, .string ⟨#[]⟩] 28)
      generalize wr.alloc (.cells #[.int .i64 8, .int .u64 n, .string ⟨#[]⟩] 28) = w1 at *
      clear d0 d1 d2
      refine (y_headOf n 25 k _ (h0.below hb1) hf).mono ?_
      rintro e w2 ⟨rfl, hb2⟩
      have zi2 := blk_below zi hb2
      have hbb2 := hb1.trans (hb2.mono hb1.size)
      clear zi hb1 hb2
      go_wp2_with fail
      refine (y_appendTo25 k _ hk).mono ?_
      rintro e w3 ⟨go, gc, rfl, own3, hb3⟩
      have zi3 := blk_below zi2 hb3
      have hbb3 := hbb2.trans (hb3.mono hbb2.size)
      clear zi2 hbb2 hb3
      have hgc := own_cap own3
      have y0 := blk_cell zi3 0
      have y1 := blk_cell zi3 1
      have y2 := blk_cell zi3 2
      go_wp2_with fail
      go_roundw
      case rel => exact ⟨hbb3, .inr ⟨rfl, _, go, gc, rfl, own3⟩⟩
      case measure => simp [intOf]
    · have hcv := conv_own [(249 : Int), ((k / 256 : Nat) : Int), ((k % 256 : Nat) : Int)] own rfl
      go_wp2_with fail
      go_ret2
      exact ⟨rfl, hbr⟩
set_option maxRecDepth 100000 in
theorem y_written26 (base g cap n k : Nat) (w : World) (h0 : Tabs w) (hf : Fl n 26 k) (hk : k < 4294967296) (h : w.ownsRow base 28 3 (.slice (some ⟨g, 0, none⟩) 1 cap) 1 (itC n)) :
    Calls Tryd.prog 16 #[.slice (some ⟨g, 0, none⟩) 1 cap] w fun e w' => e = .returned (.tuple #[.string (strOfNums [(250 : Int), ((k / 16777216 : Nat) : Int), ((k / 65536 % 256 : Nat) : Int), ((k / 256 % 256 : Nat) : Int), ((k % 256 : Nat) : Int)]), .int .i64 0]) ∧ Below w.heap.size w w' := by
  obtain ⟨hl, c0, c1, c2⟩ := own_cells h
  go_enter Tryd.func16, Tryd.ntmps16
  go_wp2_with fail
  go_loopw [4, 9] (fun o i wx => Below w.heap.size w wx ∧ ((i = .int .i64 0 ∧ o = .slice none 0 0) ∨ (i = .int .i64 1 ∧ ∃ base go gc, o = .slice (some ⟨go, 0, none⟩) 5 gc ∧ wx.ownsRow base 5 1 (.slice (some ⟨go, 0, none⟩) 5 gc) 5 [.int .u8 250, .int .u8 (k / 16777216 : Nat), .int .u8 (k / 65536 % 256 : Nat), .int .u8 (k / 256 % 256 : Nat), .int .u8 (k % 256 : Nat)]))) (fun _ i _ => 2 - (intOf i).toNat)
  case atStart => exact ⟨Below.refl _ _, .inl ⟨rfl, rfl⟩⟩
  case round =>
    obtain ⟨hbr, hi⟩ := hrel
    have d0 := ((bcell hbr).1 g 0 hl).trans c0
    have d1 := ((bcell hbr).1 g 1 hl).trans c1
    have d2 := ((bcell hbr).1 g 2 hl).trans c2
    clear c0 c1 c2
    rcases hi with ⟨rfl, rfl⟩ | ⟨rfl, bo, go, gc, rfl, own⟩
    · go_wp2_with fail
      have zi := blk_new wr (.cells #[.int .i64 8, .int .u64 n, .string ⟨#[]⟩] 28)
      have hb1 := hbr.alloc hbr.size (.cells #[.int .i64 8, .int .u64 n, .string ⟨#[]⟩] 28)
      generalize wr.alloc (.cells #[.int .i64 8, .int .u64 n, .string ⟨#[]⟩] 28) = w1 at *
      clear d0 d1 d2
      refine (y_headOf n 26 k _ (h0.below hb1) hf).mono ?_
      rintro e w2 ⟨rfl, hb2⟩
      have zi2 := blk_below zi hb2
      have hbb2 := hb1.trans (hb2.mono hb1.size)
      clear zi hb1 hb2
      go_wp2_with fail
      refine (y_appendTo26 k _ hk).mono ?_
      rintro e w3 ⟨go, gc, rfl, own3, hb3⟩
      have zi3 := blk_below zi2 hb3
      have hbb3 := hbb2.trans (hb3.mono hbb2.size)
      clear zi2 hbb2 hb3
      have hgc := own_cap own3
      have y0 := blk_cell zi3 0
      have y1 := blk_cell zi3 1
      have y2 := blk_cell zi3 2
      go_wp2_with fail
      go_roundw
      case rel => exact ⟨hbb3, .inr ⟨rfl, _, go, gc, rfl, own3⟩⟩
      case measure => simp [intOf]
    · have hcv := conv_own [(250 : Int), ((k / 16777216 : Nat) : Int), ((k / 65536 % 256 : Nat) : Int), ((k / 256 % 256 : Nat) : Int), ((k % 256 : Nat) : Int)] own rfl
      go_wp2_with fail
      go_ret2
      exact ⟨rfl, hbr⟩
set_option maxRecDepth 100000 in
theorem y_Encode25 (b off cap n k : Nat) (w : World) (h0 : Tabs w) (hf : Fl n 25 k) (hk : k < 65536) (hc : 1 ≤ cap)
    (i0 : w.cell? ⟨b, off, none⟩ = some (.int .i64 8)) (i1 : w.cell? ⟨b, off + 1, none⟩ = some (.int .u64 n)) (i2 : w.cell? ⟨b, off + 2, none⟩ = some (str [])) :
    Calls Tryd.prog 13 #[.slice (some ⟨b, off, none⟩) 1 cap] w fun e w' => e = .returned (.tuple #[.string (strOfNums [(249 : Int), ((k / 256 : Nat) : Int), ((k % 256 : Nat) : Int)]), .int .i64 0]) ∧ Below w.heap.size w w' := by
  have hlb : b < w.heap.size := block_lt_of_cell i0
  go_enter Tryd.func13, Tryd.ntmps13
  go_wp2_with fail
  have zp := blk_new w (.cells #[.slice (some ⟨b, off, none⟩) 1 cap] 45)
  have hb1 : Below w.heap.size w (w.alloc (.cells #[.slice (some ⟨b, off, none⟩) 1 cap] 45)) := (Below.refl _ _).alloc (Nat.le_refl _) _
  generalize w.alloc (.cells #[.slice (some ⟨b, off, none⟩) 1 cap] 45) = w1 at *
  refine (y_valueOfL w.heap.size b off cap n w w1 h0 hb1 (Nat.le_refl _) hf.lt hf.e2 hc zp (((bcell hb1).1 _ _ hlb).trans i0) (((bcell hb1).1 _ _ hlb).trans i1) (((bcell hb1).1 _ _ hlb).trans i2)).mono ?_
  rintro e w2 ⟨hb2, g, gc, rfl, own2⟩
  clear i0 i1 i2 zp hb1
  have hs2 := hb2.size
  go_wp2_with fail
  refine (y_written25 _ g gc n k _ (h0.below hb2) hf hk own2).mono ?_
  rintro e w4 ⟨rfl, hb4⟩
  go_wp2_with fail
  go_ret2
  exact ⟨rfl, hb2.trans (hb4.mono hb2.size)⟩
theorem y_Enc25 (b off cap n k : Nat) (w : World) (h0 : Tabs w) (hf : Fl n 25 k) (hk : k < 65536) (hc : 1 ≤ cap)
    (i0 : w.cell? ⟨b, off, none⟩ = some (.int .i64 8)) (i1 : w.cell? ⟨b, off + 1, none⟩ = some (.int .u64 n)) (i2 : w.cell? ⟨b, off + 2, none⟩ = some (str [])) :
    Calls Tryd.prog 7 #[.slice (some ⟨b, off, none⟩) 1 cap] w fun e w' => e = .returned (.tuple #[.string (strOfNums [(249 : Int), ((k / 256 : Nat) : Int), ((k % 256 : Nat) : Int)]), .int .i64 0]) ∧ Below w.heap.size w w' := by
  go_enter Tryd.func7, Tryd.ntmps7
  go_wp2_with fail
  refine (y_Encode25 b off cap n k _ h0 hf hk hc i0 i1 i2).mono ?_
  rintro e w4 ⟨rfl, hb4⟩
  go_wp2_with fail
  go_ret2
  exact ⟨rfl, hb4⟩
set_option maxRecDepth 100000 in
theorem y_Encode26 (b off cap n k : Nat) (w : World) (h0 : Tabs w) (hf : Fl n 26 k) (hk : k < 4294967296) (hc : 1 ≤ cap)
    (i0 : w.cell? ⟨b, off, none⟩ = some (.int .i64 8)) (i1 : w.cell? ⟨b, off + 1, none⟩ = some (.int .u64 n)) (i2 : w.cell? ⟨b, off + 2, none⟩ = some (str [])) :
    Calls Tryd.prog 13 #[.slice (some ⟨b, off, none⟩) 1 cap] w fun e w' => e = .returned (.tuple #[.string (strOfNums [(250 : Int), ((k / 16777216 : Nat) : Int), ((k / 65536 % 256 : Nat) : Int), ((k / 256 % 256 : Nat) : Int), ((k % 256 : Nat) : Int)]), .int .i64 0]) ∧ Below w.heap.size w w' := by
  have hlb : b < w.heap.size := block_lt_of_cell i0
  go_enter Tryd.func13, Tryd.ntmps13
  go_wp2_with fail
  have zp := blk_new w (.cells #[.slice (some ⟨b, off, none⟩) 1 cap] 45)
  have hb1 : Below w.heap.size w (w.alloc (.cells #[.slice (some ⟨b, off, none⟩) 1 cap] 45)) := (Below.refl _ _).alloc (Nat.le_refl _) _
  generalize w.alloc (.cells #[.slice (some ⟨b, off, none⟩) 1 cap] 45) = w1 at *
  refine (y_valueOfL w.heap.size b off cap n w w1 h0 hb1 (Nat.le_refl _) hf.lt hf.e2 hc zp (((bcell hb1).1 _ _ hlb).trans i0) (((bcell hb1).1 _ _ hlb).trans i1) (((bcell hb1).1 _ _ hlb).trans i2)).mono ?_
  rintro e w2 ⟨hb2, g, gc, rfl, own2⟩
  clear i0 i1 i2 zp hb1
  have hs2 := hb2.size
  go_wp2_with fail
  refine (y_written26 _ g gc n k _ (h0.below hb2) hf hk own2).mono ?_
  rintro e w4 ⟨rfl, hb4⟩
  go_wp2_with fail
  go_ret2
  exact ⟨rfl, hb2.trans (hb4.mono hb2.size)⟩
theorem y_Enc26 (b off cap n k : Nat) (w : World) (h0 : Tabs w) (hf : Fl n 26 k) (hk : k < 4294967296) (hc : 1 ≤ cap)
    (i0 : w.cell? ⟨b, off, none⟩ = some (.int .i64 8)) (i1 : w.cell? ⟨b, off + 1, none⟩ = some (.int .u64 n)) (i2 : w.cell? ⟨b, off + 2, none⟩ = some (str [])) :
    Calls Tryd.prog 7 #[.slice (some ⟨b, off, none⟩) 1 cap] w fun e w' => e = .returned (.tuple #[.string (strOfNums [(250 : Int), ((k / 16777216 : Nat) : Int), ((k / 65536 % 256 : Nat) : Int), ((k / 256 % 256 : Nat) : Int), ((k % 256 : Nat) : Int)]), .int .i64 0]) ∧ Below w.heap.size w w' := by
  go_enter Tryd.func7, Tryd.ntmps7
  go_wp2_with fail
  refine (y_Encode26 b off cap n k _ h0 hf hk hc i0 i1 i2).mono ?_
  rintro e w4 ⟨rfl, hb4⟩
  go_wp2_with fail
  go_ret2
  exact ⟨rfl, hb4⟩
end Go.Proofs.YtfcnbdhpdpcmgaaDoor
