import Derived.Test.YtfcnbdhpdpcmgaaDoorYl
namespace Go.Proofs.YtfcnbdhpdpcmgaaDoor
open Go.RowKit
theorem own_cells {w : World} {base g cap n : Nat} (h : w.ownsRow base 28 3 (.slice (some ⟨g, 0, none⟩) 1 cap) 1 (itC n)) : g < w.heap.size ∧ w.cell? ⟨g, 0, none⟩ = some (.int .i64 8) ∧ w.cell? ⟨g, 1, none⟩ = some (.int .u64 n) ∧ w.cell? ⟨g, 2, none⟩ = some (.string ⟨#[]⟩) := by
  have hc := h.cells (g := g) rfl
  exact ⟨(h.lt g rfl).2, by simpa [Addr.add] using hc 0 _ rfl, by simpa [Addr.add] using hc 1 _ rfl, by simpa [Addr.add] using hc 2 _ rfl⟩
set_option maxRecDepth 100000 in
theorem y_isRising (base g cap n : Nat) (w : World) (h : w.ownsRow base 28 3 (.slice (some ⟨g, 0, none⟩) 1 cap) 1 (itC n)) :
    Calls Tryd.prog 20 #[.slice (some ⟨g, 0, none⟩) 1 cap] w fun e w' => e = .returned (.bool true) ∧ Below w.heap.size w w' := by
  obtain ⟨hl, c0, c1, c2⟩ := own_cells h
  go_enter Tryd.func20, Tryd.ntmps20
  go_wp2_with fail
  go_loopw [7] (fun i wx => (i = .int .i64 0 ∨ i = .int .i64 1) ∧ Below w.heap.size w wx) (fun i _ => 2 - (intOf i).toNat)
  case atStart => exact ⟨.inl rfl, Below.refl _ _⟩
  case round =>
    obtain ⟨hi, hbr⟩ := hrel
    have d0 := ((bcell hbr).1 g 0 hl).trans c0
    have d1 := ((bcell hbr).1 g 1 hl).trans c1
    have d2 := ((bcell hbr).1 g 2 hl).trans c2
    clear c0 c1 c2
    rcases hi with rfl | rfl
    · go_wp2_with fail
      go_roundw
      case rel => exact ⟨.inr rfl, hbr.alloc hbr.size _⟩
      case measure => simp [intOf]
    · go_wp2_with fail
      go_ret
      exact ⟨rfl, hbr⟩
set_option maxRecDepth 100000 in
theorem y_isTaggedWell (base g cap n : Nat) (w : World) (h : w.ownsRow base 28 3 (.slice (some ⟨g, 0, none⟩) 1 cap) 1 (itC n)) :
    Calls Tryd.prog 21 #[.slice (some ⟨g, 0, none⟩) 1 cap] w fun e w' => e = .returned (.bool true) ∧ Below w.heap.size w w' := by
  obtain ⟨hl, c0, c1, c2⟩ := own_cells h
  go_enter Tryd.func21, Tryd.ntmps21
  go_wp2_with fail
  go_loopw [7] (fun i wx => (i = .int .i64 0 ∨ i = .int .i64 1) ∧ Below w.heap.size w wx) (fun i _ => 2 - (intOf i).toNat)
  case atStart => exact ⟨.inl rfl, Below.refl _ _⟩
  case round =>
    obtain ⟨hi, hbr⟩ := hrel
    have d0 := ((bcell hbr).1 g 0 hl).trans c0
    have d1 := ((bcell hbr).1 g 1 hl).trans c1
    have d2 := ((bcell hbr).1 g 2 hl).trans c2
    clear c0 c1 c2
    rcases hi with rfl | rfl
    · go_wp2_with fail
      go_roundw
      case rel => exact ⟨.inr rfl, hbr.alloc hbr.size _⟩
      case measure => simp [intOf]
    · go_wp2_with fail
      go_ret
      exact ⟨rfl, hbr⟩
end Go.Proofs.YtfcnbdhpdpcmgaaDoor
