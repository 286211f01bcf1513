import Derived.Test.YtfcnbdhpdpcmgaaDoorRows
import Derived.Test.YtfcnbdhpdpcmgaaDoorFloatsX
import Derived.ProofKit
import Derived.LaidMore
import Derived.OpenShut
import Derived.ChangeSame
import Derived.Stop.Joined
namespace Go.Proofs.YtfcnbdhpdpcmgaaDoor.floats
open Go.ChangeShapes Go.WideShapes Go.ChangeAt Go.RowKit

theorem own : ownKnob Tryd.prog.godebug = none := by kernel_rfl
theorem gWide : Tryd.prog.globalNamed "signet/values.wide" = some 2 := by kernel_rfl
theorem gNarrow : Tryd.prog.globalNamed "signet/values.narrow" = some 1 := by kernel_rfl
theorem tWide : (Tryd.prog.globals[2]?).map (·.type) = some 76 := by kernel_rfl
theorem tNarrow : (Tryd.prog.globals[1]?).map (·.type) = some 77 := by kernel_rfl
theorem cInt : Tryd.prog.cellsOf 3 = 1 := by kernel_rfl
theorem cLay : Tryd.prog.cellsOf 76 = 2 := by kernel_rfl
theorem cNar : Tryd.prog.cellsOf 77 = 4 := by kernel_rfl
abbrev laid3 : List (String × DataW Unit) := [("signet/values.wide", Rows.laid_signet_values_wide), ("signet/values.narrow", Rows.laid_signet_values_narrow), ("signet/values.headKinds", Rows.laid_signet_values_headKinds)]
theorem len2 {α : Type} {l : List α} (h : l.length = 2) : ∃ a b, l = [a, b] := by
  match l, h with
  | [a, b], _ => exact ⟨a, b, rfl⟩
theorem len4 {α : Type} {l : List α} (h : l.length = 4) : ∃ a b c d, l = [a, b, c, d] := by
  match l, h with
  | [a, b, c, d], _ => exact ⟨a, b, c, d, rfl⟩
/-- a layout read as such two numbers lies so -/
theorem trod_lay {H : Type} {enc : TypeId × Value → H} {W : World} {base : Nat} {spare : Nat → Bool} {held : Bool} {fuel : Nat} {cs : List Value} {a b : Int} {q : List MemPlace}
    (h : DataW.trod enc Tryd.prog W base spare held fuel 76 cs = some (.agg [.lit (.int .i64 a), .lit (.int .i64 b)], q)) : cs = [.int .i64 a, .int .i64 b] := by
  obtain ⟨y0, y1, n, hx, hl, h0, h1⟩ := trod_struct2 Tryd.underlying76 h
  rw [cLay] at hl
  obtain ⟨c0, c1, rfl⟩ := len2 hl
  rw [cInt] at h0 h1
  obtain ⟨k0, e0, f0, _⟩ := DataW.trod_int Tryd.underlying3 h0
  obtain ⟨k1, e1, f1, _⟩ := DataW.trod_int Tryd.underlying3 h1
  rw [f0, f1] at hx
  simp only [Prod.mk.injEq, DataW.agg.injEq, List.cons.injEq, DataW.lit.injEq, Lit.int.injEq] at hx
  simp at e0 e1
  rw [e0, e1, hx.1.1.2, hx.1.2.1.2]
theorem of_laid {W : World} (h : laidMetH Tryd.prog laid3 W) : Tabs W := by
  rw [MakeChecks.laidMetH_plain _ _ _ (by kernel_rfl)] at h
  obtain ⟨ps, ⟨g0, t0, cs0, f0, p0, q0, hg0, ht0, hv0, hd0, ⟨g1, t1, cs1, f1, p1, q1, hg1, ht1, hv1, hd1, _, _⟩, _⟩, _, _⟩ := h
  obtain rfl := Option.some.inj (gWide.symm.trans hg0)
  obtain rfl := Option.some.inj (gNarrow.symm.trans hg1)
  obtain rfl := Option.some.inj (tWide.symm.trans ht0)
  obtain rfl := Option.some.inj (tNarrow.symm.trans ht1)
  have e0 := trod_lay hd0
  obtain ⟨xs, m1, rfl, hx1, hlen, hn2, hel⟩ := DataW.trod_array Tryd.underlying77 hd1
  obtain ⟨x0, x1, rfl⟩ := len2 hn2
  rw [cLay] at hel
  rw [cNar] at hlen
  obtain ⟨a, b, c, d, hl4⟩ := len4 hlen
  have hx := congrArg Prod.fst hx1
  simp only [Rows.laid_signet_values_narrow, List.map_cons, List.map_nil, DataW.agg.injEq, List.cons.injEq] at hx
  have u0 := hel 0 (by decide)
  have u1 := hel 1 (by decide)
  rw [hl4] at u0 u1
  obtain ⟨y0, z0⟩ := x0
  obtain ⟨y1, z1⟩ := x1
  obtain ⟨hy0, hy1, _⟩ := hx
  simp only at hy0 hy1
  subst hy0; subst hy1
  have v0 := trod_lay (show DataW.trod _ _ _ _ _ _ _ _ [a, b] = _ from u0)
  have v1 := trod_lay (show DataW.trod _ _ _ _ _ _ _ _ [c, d] = _ from u1)
  have w0 := fun i => World.var?_cell hg0 hv0 i
  have w1 := fun i => World.var?_cell hg1 hv1 i
  obtain ⟨l0⟩ := cs0
  obtain ⟨l1⟩ := cs1
  simp only at e0 hl4
  subst e0; subst hl4
  simp only [List.cons.injEq] at v0 v1
  obtain ⟨rfl, rfl, _⟩ := v0
  obtain ⟨rfl, rfl, _⟩ := v1
  exact ⟨by first | exact block_lt_of_cell (w0 0) | exact block_lt_of_cell (w1 0), w0 0, w0 1, w1 0, w1 1, w1 2, w1 3⟩
theorem door_met (os : Os) (args : Array Value) : laidMetH Tryd.prog laid3 ((World.doorLaid Tryd.prog 400 os).forCall (fun _ _ => 0) ⟨#[], args, []⟩).memory :=
  laidMetH_of_parts3 (fuel := 8) (laidMet_of_run' 8 (by kernel_rfl) (by kernel_rfl)) (by kernel_rfl) (by kernel_rfl)
theorem walk (a0 : Int) (a1 : Bool) (w0 : (Lit.int .i64 a0).wf = true) (w : World) (h : Tabs w) :
    Calls Tryd.prog 6 #[.int .i64 a0, .bool a1] w fun e w' => e = .returned (.bool true) ∧ Below w.heap.size w w' := by
  obtain ⟨w0a, w0b⟩ := bounds_i64 w0
  exact floats_tab a0 a1 w h w0a w0b

set_option maxRecDepth 100000 in
theorem lifted (os : Os) (started : os.Started) (H : Type) (enc : TypeId × Value → H) :
    ReturnsInHanded {} Tryd.checked os 6 .any (fun w args => (Rows.floatsSpec.pre enc Tryd.prog Tryd.f6 [] false w args ∧ laidMetH Tryd.prog laid3 w) ∧ sizedMet enc Tryd.prog Tryd.f6 (OpenSpec.ofChange Rows.floatsSpec) false w args)
      (Rows.floatsSpec.post enc Tryd.prog Tryd.f6 false true false false) := by
  refine returnsInHanded_of_change_and (C := Tryd.checked) (X := fun w _ => laidMetH Tryd.prog laid3 w) (fun _ _ _ hh h => h.of_heap hh) own started (by kernel_rfl) Tryd.func6
    (ChangeSpec.witness_shaped (enc := enc) (C := Tryd.checked) (os := os) (X := fun w _ => laidMetH Tryd.prog laid3 w) false (World.doorLaid Tryd.prog 400 os) #[.int .i64 0, .bool false] 8 rfl (World.shaped_of_RefB (by kernel_rfl) (by kernel_rfl)) (by kernel_rfl) (by kernel_rfl) (by kernel_rfl) (door_met os _)) ?_
  intro W base args ds gs before hval0 hW _ _ hL _
  have hval : ∀ (j : Nat) t v, Tryd.f6.params[j]? = some t → args[j]? = some v → Value.okWide Tryd.prog W .any base t v := hval0
  have hW' := hW
  obtain ⟨p, q, hA0, hV, rfl, hfz, hnd⟩ := hW
  have hA : DataW.TrodAll enc Tryd.prog W 0 (fun _ => true) true Tryd.f6.params.toList args.toList ds p := hA0
  rw [Tryd.params6] at hA hval
  obtain ⟨v0, vs0, d0, ds0, p0, q0, hargs, rfl, rfl, h0, r0⟩ := trodAll_cons hA
  obtain ⟨v1, vs1, d1, ds1, p1, q1, rfl, rfl, rfl, h1, r1⟩ := trodAll_cons r0
  obtain ⟨rfl, rfl, rfl⟩ := trodAll_nil r1
  obtain rfl : args = #[v0, v1] := by cases args; simp_all
  obtain ⟨rfl, rfl⟩ := trodVars_none hV
  obtain ⟨a0, rfl, rfl, rfl, w0⟩ := open_int Tryd.underlying3 (hval 0 3 v0 rfl rfl) h0
  obtain ⟨a1, rfl, rfl, rfl⟩ := open_bool Tryd.underlying4 (hval 1 4 v1 rfl rfl) h1
  clear hA0 hval0
  refine (walk a0 a1 w0 W (of_laid hL)).mono fun e W' ⟨he, bel⟩ => ?_
  subst he
  exact ⟨_, rfl, _, _, _, [], _, [], hW', trodAll_mk1 (shut_bool Tryd.underlying4 _), (trodAll_cons_mk (shut_int Tryd.underlying3 w0) (trodAll_cons_mk (shut_bool Tryd.underlying4 _) trodAll_mk0)), rfl, bel.frame _, fun h => by cases h⟩

theorem floats_row : Rows.FloatsSaid :=
  OpenClaim.holds_of_wide 6 Tryd.f6 rfl rfl rfl rfl rfl rfl rfl ⟨rfl, rfl, rfl, rfl, rfl⟩ rfl rfl rfl rfl rfl (by kernel_rfl) Tryd.func6 (by kernel_rfl)
    (of_decide_eq_true (by kernel_rfl)) (by unfold Func.isWrapper; first | (rw [if_pos (by decide +kernel)]; kernel_rfl) | (rw [if_neg (by decide +kernel)]; exact ⟨rfl, rfl⟩))
    (fun os started H enc _ => lifted os started H enc)
end Go.Proofs.YtfcnbdhpdpcmgaaDoor.floats
