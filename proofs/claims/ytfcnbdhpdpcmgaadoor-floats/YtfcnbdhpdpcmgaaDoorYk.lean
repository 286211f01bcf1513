import Derived.Test.YtfcnbdhpdpcmgaaDoorYj
namespace Go.Proofs.YtfcnbdhpdpcmgaaDoor
open Go.RowKit
theorem heap_set_far {w : World} {p q o : Nat} {x : Value} (h : p ≠ q) : (w.setCell ⟨p, o, none⟩ x).heap[q]? = w.heap[q]? := by
  simp [World.setCell, Array.getElem?_modify, h]
theorem set1 {w : World} {H : Nat} {a : Value} {t : TypeId} (hz : w.heap[H]? = some (.cells #[a] t)) (x : Value) : (w.setCell ⟨H, 0, none⟩ x).heap[H]? = some (.cells #[x] t) := by
  simp [World.setCell, Array.getElem?_modify, hz]
/-- nothing old is written but one block -/
abbrev Gr (pb : Nat) (w w' : World) : Prop := w.grownBy w' (some pb)
theorem Gr.refl (pb : Nat) (w : World) : Gr pb w w := ⟨rfl, rfl, rfl, Nat.le_refl _, fun _ _ _ => rfl⟩
theorem Gr.trans {pb : Nat} {a b c : World} (h : Gr pb a b) (k : Gr pb b c) : Gr pb a c :=
  ⟨k.os.trans h.os, k.tape.trans h.tape, k.output.trans h.output, Nat.le_trans h.size k.size, fun i hi hne => (k.block i (Nat.lt_of_lt_of_le hi h.size) hne).trans (h.block i hi hne)⟩
theorem Gr.below {pb : Nat} {w w' : World} (h : Below w.heap.size w w') : Gr pb w w' := ⟨h.os, h.tape, h.output, h.size, fun k hk _ => h.block k hk⟩
theorem Gr.set {pb o : Nat} {w : World} {x : Value} : Gr pb w (w.setCell ⟨pb, o, none⟩ x) :=
  ⟨rfl, rfl, rfl, by simp, fun k _ hne => heap_set_far (by intro e; exact hne (by rw [e]))⟩
theorem Gr.far {pb H o : Nat} {w w' : World} {x : Value} (h : Gr pb w w') (hH : w.heap.size ≤ H) : Gr pb w (w'.setCell ⟨H, o, none⟩ x) :=
  ⟨h.os, h.tape, h.output, by simp; exact h.size, fun k hk hne => (heap_set_far (by omega)).trans (h.block k hk hne)⟩
theorem Gr.alloc {pb : Nat} {w w' : World} (h : Gr pb w w') (o : Obj) : Gr pb w (w'.alloc o) := h.trans (Gr.below ((Below.refl _ _).alloc (Nat.le_refl _) _))
theorem Gr.to {pb n : Nat} {w0 w w' : World} (h : Gr pb w w') (hb : Below n w0 w) (hn : n ≤ pb) (hs : n ≤ w.heap.size) : Below n w0 w' :=
  below_grown hb h (fun k hk => by cases hk; exact hn) hs
theorem results_row_tmp {P : Program} {fn : Func} {p u : Tmp} {ty : TypeId} (h : fn.results = #[.cell p ty, .tmp u]) (tmps : Array Value) (w : World) (g : Nat) (t : TypeId) (cs : Array Value) (fr : Nat × Nat) (d : TypeDesc)
    (hp : tmps.getD p undef = .pointer (some ⟨g, 0, none⟩)) (hg : w.heap[g]? = some (.cells cs t fr))
    (hu : P.underlying ty = some d) (hd : (match d with | .struct _ | .array _ _ => true | _ => false) = true) (hi : (P.info? ty).map (·.size) = some cs.size) :
    (results fn tmps).run P w = .ok (.tuple #[.agg cs, tmps.getD u undef]) w := by
  have hp' : tmps[p]?.getD undef = .pointer (some ⟨g, 0, none⟩) := by simpa using hp
  simp [results, h, hp', asAddr, run_loadVar_row w g t ty cs fr d hg hu hd hi]
theorem results_row_tmp2 {P : Program} {fn : Func} {p u v : Tmp} {ty : TypeId} (h : fn.results = #[.cell p ty, .tmp u, .tmp v]) (tmps : Array Value) (w : World) (g : Nat) (t : TypeId) (cs : Array Value) (fr : Nat × Nat) (d : TypeDesc)
    (hp : tmps.getD p undef = .pointer (some ⟨g, 0, none⟩)) (hg : w.heap[g]? = some (.cells cs t fr))
    (hu : P.underlying ty = some d) (hd : (match d with | .struct _ | .array _ _ => true | _ => false) = true) (hi : (P.info? ty).map (·.size) = some cs.size) :
    (results fn tmps).run P w = .ok (.tuple #[.agg cs, tmps.getD u undef, tmps.getD v undef]) w := by
  have hp' : tmps[p]?.getD undef = .pointer (some ⟨g, 0, none⟩) := by simpa using hp
  simp [results, h, hp', asAddr, run_loadVar_row w g t ty cs fr d hg hu hd hi]
theorem Tabs.gr {pb : Nat} {w w' : World} (h : Tabs w) (hg : Gr pb w w') (hp : 3 ≤ pb) : Tabs w' := by
  have hl := h.lt
  have e : ∀ b o, b < 3 → w'.cell? ⟨b, o, none⟩ = w.cell? ⟨b, o, none⟩ := fun b o hb => World.cell?_of_block (hg.block b (by omega) (by simp; omega))
  exact ⟨Nat.lt_of_lt_of_le hl hg.size, (e _ _ (by omega)).trans h.w0, (e _ _ (by omega)).trans h.w1, (e _ _ (by omega)).trans h.n0, (e _ _ (by omega)).trans h.n1, (e _ _ (by omega)).trans h.n2, (e _ _ (by omega)).trans h.n3⟩
theorem y_lEmpty (pb n cap : Nat) (a : Option Addr) (w : World) (hz : w.heap[pb]? = some (.cells #[.slice a n cap] 45)) : Calls Tryd.prog 69 #[.pointer (some ⟨pb, 0, none⟩)] w fun e w' => e = .returned (.bool ((n : Int) == 0)) ∧ w' = w := by
  have y0 := blk_cell hz 0
  go_enter Tryd.func69, Tryd.ntmps69
  go_wp2_with fail
  go_ret
  exact ⟨rfl, rfl⟩
set_option maxRecDepth 100000 in
theorem y_lNext (pb b off cap n : Nat) (w : World) (h : Tabs w) (hn : n < 18446744073709551616) (he : n / 4503599627370496 % 2048 ≤ 2046) (_hc : 1 ≤ cap) (hpb : 3 ≤ pb)
    (hz : w.heap[pb]? = some (.cells #[.slice (some ⟨b, off, none⟩) 1 cap] 45))
    (i0 : w.cell? ⟨b, off, none⟩ = some (.int .i64 8)) (i1 : w.cell? ⟨b, off + 1, none⟩ = some (.int .u64 n)) (i2 : w.cell? ⟨b, off + 2, none⟩ = some (str [])) :
    Calls Tryd.prog 70 #[.pointer (some ⟨pb, 0, none⟩), .int .i64 1] w fun e w' => e = .returned (.tuple #[itF n, .int .i64 0]) ∧ Gr pb w w' ∧ ∃ a c, w'.heap[pb]? = some (.cells #[.slice a 0 c] 45) := by
  have hlp := blk_lt hz
  have y0 := blk_cell hz 0
  have yf := blk_frozen hz 0
  go_enter Tryd.func70, Tryd.ntmps70
  go_wp2_with fail
  refine (y_lEmpty pb 1 cap (some ⟨b, off, none⟩) _ ?_).mono ?_
  · show (w.heap.push _)[pb]? = _
    rw [Array.getElem?_push, if_neg (by omega)]; exact hz
  rintro e w1 ⟨rfl, rfl⟩
  have hlb : b < w.heap.size := block_lt_of_cell i0
  go_upto_region 5 with fail
  obtain ⟨a', ha'⟩ : ∃ a', (if cap = 1 then some (⟨b, off, none⟩ : Addr) else some ⟨b, off + 3, none⟩) = a' := ⟨_, rfl⟩
  rw [ha']
  have g1 : Gr pb w (w.setCell ⟨pb, 0, none⟩ (.slice a' 0 (cap - 1))) := Gr.set
  have z1 := set1 hz (.slice a' 0 (cap - 1))
  have s1 : (w.setCell ⟨pb, 0, none⟩ (.slice a' 0 (cap - 1))).heap.size = w.heap.size := by simp
  generalize w.setCell ⟨pb, 0, none⟩ (.slice a' 0 (cap - 1)) = w1 at *
  obtain ⟨b2, z2r, z2i⟩ := two_alloc w1 (.cells #[.int .i64 0, .int .u64 0, .string ⟨#[]⟩] 28) (.cells #[.int .i64 8, .int .u64 n, .string ⟨#[]⟩] 28)
  generalize (w1.alloc (.cells #[.int .i64 0, .int .u64 0, .string ⟨#[]⟩] 28)).alloc (.cells #[.int .i64 8, .int .u64 n, .string ⟨#[]⟩] 28) = w2 at *
  rw [s1] at z2r z2i
  have g2 : Gr pb w w2 := g1.trans (Gr.below b2)
  have z2 := blk_below z1 b2
  have h2 := h.gr g2 hpb
  clear g1 z1 b2 h i0 i1 i2 hz y0 yf
  have y0 := blk_cell z2i 0
  have y1 := blk_cell z2i 1
  have y2 := blk_cell z2i 2
  have x0 := blk_cell z2r 0
  have x1 := blk_cell z2r 1
  have x2 := blk_cell z2r 2
  have xf := blk_frozen z2r
  first
    | go_region_with (first | (go_at_call 71; refine (y_faultOf n _ (h2.below (Below.refl _ _).drew) hn he).mono ?_; rintro e w3 ⟨rfl, hb3⟩; have hb4 : Below w2.heap.size w2 w3 := ((Below.refl _ _).drew).trans hb3; have z3i := blk_below z2i hb4; have z3r := blk_below z2r hb4; have u0 := blk_cell z3i 0; have u1 := blk_cell z3i 1; have u2 := blk_cell z3i 2; have v0 := blk_cell z3r 0; have v1 := blk_cell z3r 1; have v2 := blk_cell z3r 2; have vf := blk_frozen z3r))
    | skip
  all_goals go_wp2_with fail
  all_goals (try simp only [Exit.inBlock, Exit.then])
  all_goals refine bodyPost_ret (results_row_tmp (ty := 28) rfl _ _ w.heap.size _ _ _ _ rfl (set3 z3r _ _ _) rfl rfl rfl) rfl ?_
  all_goals refine ⟨rfl, (((g2.trans (Gr.below hb4)).far (Nat.le_refl _)).far (Nat.le_refl _)).far (Nat.le_refl _), a', cap - 1, ?_⟩
  all_goals exact (heap_set_far (by omega)).trans ((heap_set_far (by omega)).trans ((heap_set_far (by omega)).trans (blk_below z2 hb4)))
end Go.Proofs.YtfcnbdhpdpcmgaaDoor
