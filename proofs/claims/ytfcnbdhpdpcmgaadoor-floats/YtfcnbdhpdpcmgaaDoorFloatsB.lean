import Derived.Test.YtfcnbdhpdpcmgaaDoorFloatsA
namespace Sg
theorem odd_part : ∀ m : Nat, 1 ≤ m → ∃ o z : Nat, o % 2 = 1 ∧ m = o * 2 ^ z := by
  intro m
  induction m using Nat.strongRecOn with
  | _ m ih =>
    intro hm
    by_cases h : m % 2 = 1
    · exact ⟨m, 0, h, by simp⟩
    · obtain ⟨o, z, ho, hz⟩ := ih (m / 2) (by omega) (by omega)
      exact ⟨o, z + 1, ho, by rw [Nat.pow_succ, ← Nat.mul_assoc, ← hz]; omega⟩
end Sg
namespace Go.Proofs.YtfcnbdhpdpcmgaaDoor
open Go.RowKit

/-- a bit moved to the highest place -/
def top63 (s : Int) : Int := IntKind.u64.wrap (s * 2 ^ 63)
theorem top63_nat (s : Nat) (hs : s < 2) : top63 s = ((s * 2 ^ 63 : Nat) : Int) := by
  rcases (by omega : s = 0 ∨ s = 1) with rfl | rfl <;> decide

theorem wrap_u64_id (n : Nat) (h : n < 2 ^ 64) : IntKind.u64.wrap (n : Int) = n := by
  simp only [IntKind.wrap, IntKind.bits, IntKind.signed]
  have : (n : Int) % 2 ^ 64 = n := Int.emod_eq_of_lt (by omega) (by exact_mod_cast h)
  simpa using this
abbrev o30 : Oper := { dst := some 30, op := Op.move (Operand.tmp 5), type := 26, pos := "keep.go:229", after := #[], guard := none }
abbrev o31 : Oper := { dst := some 31, op := Op.binOp BinOp.shr 26 (Operand.tmp 30) (Operand.const (Value.int IntKind.u64 31)) 39, type := 26, pos := "keep.go:229", after := #[{ on := 0, ground := Ground.data }], guard := none }
abbrev o32 : Oper := { dst := some 32, op := Op.binOp BinOp.shl 26 (Operand.tmp 31) (Operand.const (Value.int IntKind.u64 63)) 39, type := 26, pos := "keep.go:229", after := #[{ on := 1, ground := Ground.data }], guard := none }
abbrev o8 : Oper := { dst := some 8, op := Op.assign (Operand.tmp 32), type := 26, pos := "keep.go:229", after := #[{ on := 2, ground := Ground.data }, { on := 0, ground := Ground.phase }, { on := 1, ground := Ground.phase }, { on := 2, ground := Ground.phase }], guard := none }

theorem run31 (ρ : Operand → Value) (f : Int) (w : World) (h : ρ (.tmp 30) = .int .u64 f) (hc : ∀ v, ρ (.const v) = v) : (execOp ρ o31).run Tryd.prog w = .ok (.value (.int .u64 (f / 2 ^ 31))) w := by
  have e : Op.shift .shr .u64 f .u64 31 = pure (.int .u64 (f / 2 ^ 31)) := by
    rw [shift_shr_any _ _ _ _ (by omega)]; rfl
  unfold execOp
  simp only [h, hc]
  refine Eq.trans (b := Sem.run Tryd.prog (do let v ← Op.shift .shr .u64 f .u64 31; pure (Next.value v)) w) (by kernel_rfl) ?_
  rw [e]; rfl
theorem run32 (ρ : Operand → Value) (s : Int) (w : World) (h : ρ (.tmp 31) = .int .u64 s) (hc : ∀ v, ρ (.const v) = v) : (execOp ρ o32).run Tryd.prog w = .ok (.value (.int .u64 (top63 s))) w := by
  unfold execOp
  simp only [h, hc]
  kernel_rfl
/-- 'sign := f >> 31 << 63' -/
theorem region4 {Q : Exit → Act → World → Prop} {a : Act} {w : World} {id : Nat} {f : Int} (ops : Array Oper) (hops : ops = #[o30, o31, o32, o8]) (hn : 32 < a.tmps.size) (h5 : a.eval (.tmp 5) = .int .u64 f)
    (h : Q .normal ((((a.put (some 30) (.int .u64 f)).put (some 31) (.int .u64 (f / 2 ^ 31))).put (some 32) (.int .u64 (top63 (f / 2 ^ 31)))).put (some 8) (.int .u64 (top63 (f / 2 ^ 31)))) w) :
    (Code.region id ops false).wp Tryd.prog Q a w := by
  subst hops
  apply wp_region_lit
  refine wpList_plain rfl (fun K hK => ?_)
  show K (a.put (some 30) (a.eval (.tmp 5))) w
  rw [h5]
  refine hK _ _ ?_
  clear hK K
  have e30 : (a.put (some 30) (.int .u64 f)).eval (.tmp 30) = .int .u64 f := by
    show (a.tmps.setIfInBounds 30 _).getD 30 undef = _
    simp [Array.getD, show 30 < a.tmps.size by omega]
  refine wpList_plain rfl (fun K hK => ?_)
  unfold Oper.wp
  rw [run31 _ f w e30 (fun _ => rfl)]
  show K ((a.put (some 30) (.int .u64 f)).put (some 31) (.int .u64 (f / 2 ^ 31))) w
  refine hK _ _ ?_
  clear hK K
  have e31 : ((a.put (some 30) (.int .u64 f)).put (some 31) (.int .u64 (f / 2 ^ 31))).eval (.tmp 31) = .int .u64 (f / 2 ^ 31) := by
    show ((a.tmps.setIfInBounds 30 _).setIfInBounds 31 _).getD 31 undef = _
    simp [Array.getD, show 31 < a.tmps.size by omega]
  refine wpList_plain rfl (fun K hK => ?_)
  unfold Oper.wp
  rw [run32 _ (f / 2 ^ 31) w e31 (fun _ => rfl)]
  show K (((a.put (some 30) (.int .u64 f)).put (some 31) (.int .u64 (f / 2 ^ 31))).put (some 32) (.int .u64 (top63 (f / 2 ^ 31)))) w
  refine hK _ _ ?_
  clear hK K
  have e32 : (((a.put (some 30) (.int .u64 f)).put (some 31) (.int .u64 (f / 2 ^ 31))).put (some 32) (.int .u64 (top63 (f / 2 ^ 31)))).eval (.tmp 32) = .int .u64 (top63 (f / 2 ^ 31)) := by
    show (((a.tmps.setIfInBounds 30 _).setIfInBounds 31 _).setIfInBounds 32 _).getD 32 undef = _
    simp [Array.getD, hn]
  refine wpList_plain rfl (fun K hK => ?_)
  show K (Act.put _ (some 8) (Act.eval _ (.tmp 32))) w
  rw [e32]
  exact hK _ _ (wpList_nil h)
/-- all that the law asks of the number's bits, of its text and of its odd part -/
theorem float_facts {s e part M : Nat} {X : Int} {half : Bool} (hs : s < 2) (he : e < 255) (hp : part < 8388608) (h0 : ¬ (e = 0 ∧ part = 0)) (y1 : 1 ≤ M) (y2 : M < 16777216) (y3 : -149 ≤ X) (y4 : X ≤ 104)
    (y5 : half = true → M ≤ 2047 ∧ -24 ≤ X ∧ X ≤ 5) (y6 : half = false → M = (if e = 0 then part else part + 8388608) ∧ X = (if e = 0 then -149 else (e : Int) - 150)) :
    ∃ (B : Nat) (T : Sg.Bytes) (sm : Bool), IntKind.u64.wrap (top63 s + (Sg.scaledN M X : Nat)) = (B : Int) ∧ B < 18446744073709551616 ∧ Sg.noneB B = false ∧ Sg.floatedB B = T ∧
      (sm = true → ∃ k, T = 249 :: Sg.be k 2) ∧ (sm = false → T = 250 :: Sg.be (s * 2147483648 + e * 8388608 + part) 4) ∧
      ∀ o z : Nat, o % 2 = 1 → M = o * 2 ^ z → (sm = true ↔ (o.log2 + 1 ≤ 11 ∧ -24 ≤ X + z ∧ X + z + (o.log2 + 1 : Nat) ≤ 16)) := by
  obtain ⟨g1, g2, g3⟩ := Sg.scaled_sound (x := X) hs y1 y2 y3 y4
  refine ⟨s * 2 ^ 63 + Sg.scaledN M X, _, (Sg.packed 5 10 (s * 2 ^ 63 + Sg.scaledN M X)).isSome, ?_, by simpa using g1, g2, rfl, fun h => Sg.floatedB_16 g3 h, fun h => ?_, fun o z ho hz => Sg.scaled_16 hs y1 y2 y3 y4 ho hz⟩
  · rw [top63_nat s hs, ← Int.natCast_add, wrap_u64_id _ g1]
  · cases half with
    | false =>
      obtain ⟨e1, e2⟩ := y6 rfl
      have e3 := Sg.scaled_32 hs he hp h0
      rw [← e1, ← e2] at e3
      rw [e3] at g3 h ⊢
      exact Sg.floatedB_32 hs he hp g3 (by rw [h]; simp)
    | true =>
      exfalso
      obtain ⟨q1, q2, q3⟩ := y5 rfl
      obtain ⟨o, z, ho, hz⟩ := Sg.odd_part M y1
      have hb := (Sg.scaled_16 (x := X) hs y1 y2 y3 y4 ho hz).2
      have hl : M.log2 = o.log2 + z := by rw [hz]; exact Sg.log2_odd (by omega)
      have hM : M.log2 < 11 := (Nat.log2_lt (by omega)).2 (by omega)
      rw [hb ⟨by omega, by omega, by omega⟩] at h
      cases h
end Go.Proofs.YtfcnbdhpdpcmgaaDoor
