import Derived.Test.YtfcnbdhpdpcmgaaDoorPact
import Derived.Laws.BitsAllLaws
import Derived.Laws.BitsLemmas
import Derived.Deep.RegionWith
import Derived.Deep.QuietTactic
import Derived.Deep.CutRange
import Derived.Deep.DeepCutAuto
import Derived.BigQuiet
import Derived.Lib.QuietBelow
import Derived.Deep.CutBlock
namespace Go.Proofs.YtfcnbdhpdpcmgaaDoor
open Go.RowKit
/-- the tables as they are laid -/
structure Tabs (w : World) : Prop where
  lt : 2 < w.heap.size
  w0 : w.cell? ⟨2, 0, none⟩ = some (.int .i64 11)
  w1 : w.cell? ⟨2, 1, none⟩ = some (.int .i64 52)
  n0 : w.cell? ⟨1, 0, none⟩ = some (.int .i64 5)
  n1 : w.cell? ⟨1, 1, none⟩ = some (.int .i64 10)
  n2 : w.cell? ⟨1, 2, none⟩ = some (.int .i64 8)
  n3 : w.cell? ⟨1, 3, none⟩ = some (.int .i64 23)
theorem Tabs.below {w w' : World} (h : Tabs w) (hb : Below w.heap.size w w') : Tabs w' := by
  obtain ⟨hc, _⟩ := bcell hb
  have hl := h.lt
  refine ⟨Nat.lt_of_lt_of_le hl hb.size, ?_, ?_, ?_, ?_, ?_, ?_⟩
  · rw [hc _ _ (by omega)]; exact h.w0
  · rw [hc _ _ (by omega)]; exact h.w1
  · rw [hc _ _ (by omega)]; exact h.n0
  · rw [hc _ _ (by omega)]; exact h.n1
  · rw [hc _ _ (by omega)]; exact h.n2
  · rw [hc _ _ (by omega)]; exact h.n3
abbrev lay (e p : Int) : Value := .agg #[.int .i64 e, .int .i64 p]
theorem y_top11 (w : World) : Calls Tryd.prog 47 #[lay 11 52] w fun e w' => e = .returned (.int .i64 2047) ∧ Below w.heap.size w w' := by
  go_enter Tryd.func47, Tryd.ntmps47
  go_wp2_with fail
  go_ret
  exact ⟨rfl, (Below.refl _ _).alloc (Nat.le_refl _) _⟩
theorem y_top5 (w : World) : Calls Tryd.prog 47 #[lay 5 10] w fun e w' => e = .returned (.int .i64 31) ∧ Below w.heap.size w w' := by
  go_enter Tryd.func47, Tryd.ntmps47
  go_wp2_with fail
  go_ret
  exact ⟨rfl, (Below.refl _ _).alloc (Nat.le_refl _) _⟩
theorem y_top8 (w : World) : Calls Tryd.prog 47 #[lay 8 23] w fun e w' => e = .returned (.int .i64 255) ∧ Below w.heap.size w w' := by
  go_enter Tryd.func47, Tryd.ntmps47
  go_wp2_with fail
  go_ret
  exact ⟨rfl, (Below.refl _ _).alloc (Nat.le_refl _) _⟩
theorem lay_block (w : World) (e p : Int) : Below w.heap.size w (w.alloc (.cells #[.int .i64 e, .int .i64 p] 76)) ∧ (w.alloc (.cells #[.int .i64 e, .int .i64 p] 76)).cell? ⟨w.heap.size, 0, none⟩ = some (.int .i64 e) ∧ (w.alloc (.cells #[.int .i64 e, .int .i64 p] 76)).cell? ⟨w.heap.size, 1, none⟩ = some (.int .i64 p) := by
  have hh : (w.alloc (.cells #[.int .i64 e, .int .i64 p] 76)).heap[w.heap.size]? = some (.cells #[.int .i64 e, .int .i64 p] 76) := by
    show (w.heap.push _)[w.heap.size]? = _
    simp
  refine ⟨(Below.refl _ _).alloc (Nat.le_refl _) _, ?_, ?_⟩ <;> (unfold World.cell?; simp only [hh]; rfl)
theorem y_further5 (w : World) (h : Tabs w) : Calls Tryd.prog 48 #[lay 5 10] w fun e w' => e = .returned (.int .i64 1008) ∧ Below w.heap.size w w' := by
  go_enter Tryd.func48, Tryd.ntmps48
  go_wp2_with fail
  obtain ⟨hb0, c0, c1⟩ := lay_block w 5 10
  generalize w.alloc (.cells #[.int .i64 5, .int .i64 10] 76) = W at *
  have h' := h.below hb0
  have k0 := cell_regrown c0
  have k1 := cell_regrown c1
  have k2 := cell_regrown h'.w0
  have k3 := cell_regrown h'.w1
  refine wp_region_quiet_below (by kernel_rfl) (by kernel_rfl) ?_
  repeat (quiet_step (first | exact Calls.regrown_of (y_top11 _) | exact Calls.regrown_of (y_top5 _)))
  refine wpQuiet_nil ?_
  intro _ hw'
  obtain ⟨⟨dq, osq⟩, hw''⟩ := hw'
  subst hw''
  go_wp2
  go_ret
  exact ⟨rfl, hb0.trans ((below_regrown W dq osq).mono hb0.size)⟩
theorem y_further8 (w : World) (h : Tabs w) : Calls Tryd.prog 48 #[lay 8 23] w fun e w' => e = .returned (.int .i64 896) ∧ Below w.heap.size w w' := by
  go_enter Tryd.func48, Tryd.ntmps48
  go_wp2_with fail
  obtain ⟨hb0, c0, c1⟩ := lay_block w 8 23
  generalize w.alloc (.cells #[.int .i64 8, .int .i64 23] 76) = W at *
  have h' := h.below hb0
  have k0 := cell_regrown c0
  have k1 := cell_regrown c1
  have k2 := cell_regrown h'.w0
  have k3 := cell_regrown h'.w1
  refine wp_region_quiet_below (by kernel_rfl) (by kernel_rfl) ?_
  repeat (quiet_step (first | exact Calls.regrown_of (y_top11 _) | exact Calls.regrown_of (y_top8 _)))
  refine wpQuiet_nil ?_
  intro _ hw'
  obtain ⟨⟨dq, osq⟩, hw''⟩ := hw'
  subst hw''
  go_wp2
  go_ret
  exact ⟨rfl, hb0.trans ((below_regrown W dq osq).mono hb0.size)⟩
end Go.Proofs.YtfcnbdhpdpcmgaaDoor
