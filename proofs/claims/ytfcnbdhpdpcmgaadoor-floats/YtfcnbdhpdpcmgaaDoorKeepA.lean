import Derived.Test.YtfcnbdhpdpcmgaaDoorProg
import Derived.Test.YtfcnbdhpdpcmgaaDoorValue
import Derived.WalkKit
import Derived.WalkSpells
import Derived.WalkLawsBesides
namespace Go.Proofs.YtfcnbdhpdpcmgaaDoor
open Go.RowKit

def pickI (c n : Int) : Int := if c < 0 then -((c + 1).tmod n) else c % n
theorem pickI_spec (c n : Int) (hn : 0 < n) : 0 ≤ pickI c n ∧ pickI c n < n := by
  unfold pickI
  split
  · have e : (c + 1).tmod n = -((-(c + 1)) % n) := by
      have h1 : c + 1 = -(-(c + 1)) := by omega
      rw [h1, Int.neg_tmod, Int.tmod_eq_emod_of_nonneg (by omega)]
      simp
    rw [e]
    have h1 := Int.emod_nonneg (-(c + 1)) (b := n) (by omega)
    have h2 := Int.emod_lt_of_pos (-(c + 1)) hn
    omega
  · exact ⟨Int.emod_nonneg _ (by omega), Int.emod_lt_of_pos _ hn⟩
/-- 'string(b)' of a literal slice that was laid just now -/
theorem conv_lit (w : World) (xs : List Int) : (convert 36 9 (.slice (some ⟨w.heap.size, 0, none⟩) xs.length xs.length)).run Tryd.prog (w.alloc (.cells (xs.map (Value.int .u8)).toArray 5)) =
    .ok (.string (strOfNums xs)) (w.alloc (.cells (xs.map (Value.int .u8)).toArray 5)) := by
  refine run_convert_bytes_arg _ 36 5 Tryd.underlying36 Tryd.underlying5 w.heap.size 0 xs.length xs.length xs rfl ?_ 9 Tryd.underlying9
  intro i hi
  show (match (w.heap.push (Obj.cells (xs.map (Value.int .u8)).toArray 5))[w.heap.size]? with | some (.cells c _ _) => if (none : Option Nat).isSome then none else c[0 + i]? | _ => none) = _
  simp [hi]
set_option maxHeartbeats 400000 in
theorem pick_any (c n : Int) (w : World) (hc : -9223372036854775808 ≤ c) (hc' : c ≤ 9223372036854775807) (hn : 0 < n) (hn' : n ≤ 9223372036854775807) :
    Calls Tryd.prog 10 #[.int .i64 c, .int .i64 n] w fun e w' => e = .returned (.int .i64 (pickI c n)) ∧ w' = w := by
  by_cases h : c < 0
  · have hp : Hid (pickI c n = -((c + 1).tmod n)) := if_pos h
    go_enter Tryd.func10, Tryd.ntmps10
    go_wp2
    go_ret
    exact ⟨by rw [hp.out]; rfl, rfl⟩
  · have hp : Hid (pickI c n = c % n) := if_neg h
    go_enter Tryd.func10, Tryd.ntmps10
    go_wp2
    go_ret
    exact ⟨by rw [hp.out]; rfl, rfl⟩

theorem be_1 (n : Nat) : strOfNums [(n : Int) % 256] = ⟨(Sg.be n 1).toArray⟩ := by
  have e : ([(n : Int) % 256] : List Int) = [((n % 256 : Nat) : Int)] := by simp
  rw [e]
  simp only [strOfNums, List.map, Int.toNat_natCast]
  simp [Sg.be]
set_option maxHeartbeats 1000000 in
theorem tail_1 (n : Nat) (w : World) (hn : n < 18446744073709551616) :
    Calls Tryd.prog 11 #[.int .u64 n, .int .i64 1] w fun e w' => e = .returned (.string ⟨(Sg.be n 1).toArray⟩) ∧ Below w.heap.size w w' := by
  have hmk : ∀ w, (Instr.makeSlice 36 (.int .i64 1) (.int .i64 1)).run Tryd.prog w = .ok (.slice (some ⟨w.heap.size, 0, none⟩) 1 1) (w.alloc (.cells #[.int .u8 0] 5)) := fun _ => by kernel_rfl
  have hcv : ∀ (w : World) (x0 : Int), (convert 36 9 (.slice (some ⟨w.heap.size, 0, none⟩) 1 1)).run Tryd.prog (w.alloc (.cells #[.int .u8 x0] 5)) =
      .ok (.string (strOfNums [x0])) (w.alloc (.cells #[.int .u8 x0] 5)) := fun w x0 => conv_lit w [x0]
  go_enter Tryd.func11, Tryd.ntmps11
  go_wp2
  refine wp_loop_rounds 2 ?_
  rw [rounds_succ]
  go_wp2
  rw [rounds_succ]
  go_wp2
  go_ret
  exact ⟨congrArg (fun s => Ending.returned (Value.string s)) (be_1 n), (Below.refl _ _).alloc (Nat.le_refl _) _⟩

theorem be_2 (n : Nat) : strOfNums [(n : Int) / 256 % 256, (n : Int) % 256] = ⟨(Sg.be n 2).toArray⟩ := by
  have e : ([(n : Int) / 256 % 256, (n : Int) % 256] : List Int) = [((n / 256 % 256 : Nat) : Int), ((n % 256 : Nat) : Int)] := by simp
  rw [e]
  simp only [strOfNums, List.map, Int.toNat_natCast]
  simp [Sg.be]
set_option maxHeartbeats 1000000 in
theorem tail_2 (n : Nat) (w : World) (hn : n < 18446744073709551616) :
    Calls Tryd.prog 11 #[.int .u64 n, .int .i64 2] w fun e w' => e = .returned (.string ⟨(Sg.be n 2).toArray⟩) ∧ Below w.heap.size w w' := by
  have hmk : ∀ w, (Instr.makeSlice 36 (.int .i64 2) (.int .i64 2)).run Tryd.prog w = .ok (.slice (some ⟨w.heap.size, 0, none⟩) 2 2) (w.alloc (.cells #[.int .u8 0, .int .u8 0] 5)) := fun _ => by kernel_rfl
  have hcv : ∀ (w : World) (x0 x1 : Int), (convert 36 9 (.slice (some ⟨w.heap.size, 0, none⟩) 2 2)).run Tryd.prog (w.alloc (.cells #[.int .u8 x0, .int .u8 x1] 5)) =
      .ok (.string (strOfNums [x0, x1])) (w.alloc (.cells #[.int .u8 x0, .int .u8 x1] 5)) := fun w x0 x1 => conv_lit w [x0, x1]
  go_enter Tryd.func11, Tryd.ntmps11
  go_wp2
  refine wp_loop_rounds 3 ?_
  rw [rounds_succ]
  go_wp2
  rw [rounds_succ]
  go_wp2
  rw [rounds_succ]
  go_wp2
  go_ret
  exact ⟨congrArg (fun s => Ending.returned (Value.string s)) (be_2 n), (Below.refl _ _).alloc (Nat.le_refl _) _⟩

theorem be_4 (n : Nat) : strOfNums [(n : Int) / 256 / 256 / 256 % 256, (n : Int) / 256 / 256 % 256, (n : Int) / 256 % 256, (n : Int) % 256] = ⟨(Sg.be n 4).toArray⟩ := by
  have e : ([(n : Int) / 256 / 256 / 256 % 256, (n : Int) / 256 / 256 % 256, (n : Int) / 256 % 256, (n : Int) % 256] : List Int) = [((n / 256 / 256 / 256 % 256 : Nat) : Int), ((n / 256 / 256 % 256 : Nat) : Int), ((n / 256 % 256 : Nat) : Int), ((n % 256 : Nat) : Int)] := by simp
  rw [e]
  simp only [strOfNums, List.map, Int.toNat_natCast]
  simp [Sg.be]
set_option maxHeartbeats 1000000 in
theorem tail_4 (n : Nat) (w : World) (hn : n < 18446744073709551616) :
    Calls Tryd.prog 11 #[.int .u64 n, .int .i64 4] w fun e w' => e = .returned (.string ⟨(Sg.be n 4).toArray⟩) ∧ Below w.heap.size w w' := by
  have hmk : ∀ w, (Instr.makeSlice 36 (.int .i64 4) (.int .i64 4)).run Tryd.prog w = .ok (.slice (some ⟨w.heap.size, 0, none⟩) 4 4) (w.alloc (.cells #[.int .u8 0, .int .u8 0, .int .u8 0, .int .u8 0] 5)) := fun _ => by kernel_rfl
  have hcv : ∀ (w : World) (x0 x1 x2 x3 : Int), (convert 36 9 (.slice (some ⟨w.heap.size, 0, none⟩) 4 4)).run Tryd.prog (w.alloc (.cells #[.int .u8 x0, .int .u8 x1, .int .u8 x2, .int .u8 x3] 5)) =
      .ok (.string (strOfNums [x0, x1, x2, x3])) (w.alloc (.cells #[.int .u8 x0, .int .u8 x1, .int .u8 x2, .int .u8 x3] 5)) := fun w x0 x1 x2 x3 => conv_lit w [x0, x1, x2, x3]
  go_enter Tryd.func11, Tryd.ntmps11
  go_wp2
  refine wp_loop_rounds 5 ?_
  rw [rounds_succ]
  go_wp2
  rw [rounds_succ]
  go_wp2
  rw [rounds_succ]
  go_wp2
  rw [rounds_succ]
  go_wp2
  rw [rounds_succ]
  go_wp2
  go_ret
  exact ⟨congrArg (fun s => Ending.returned (Value.string s)) (be_4 n), (Below.refl _ _).alloc (Nat.le_refl _) _⟩

theorem be_8 (n : Nat) : strOfNums [(n : Int) / 256 / 256 / 256 / 256 / 256 / 256 / 256 % 256, (n : Int) / 256 / 256 / 256 / 256 / 256 / 256 % 256, (n : Int) / 256 / 256 / 256 / 256 / 256 % 256, (n : Int) / 256 / 256 / 256 / 256 % 256, (n : Int) / 256 / 256 / 256 % 256, (n : Int) / 256 / 256 % 256, (n : Int) / 256 % 256, (n : Int) % 256] = ⟨(Sg.be n 8).toArray⟩ := by
  have e : ([(n : Int) / 256 / 256 / 256 / 256 / 256 / 256 / 256 % 256, (n : Int) / 256 / 256 / 256 / 256 / 256 / 256 % 256, (n : Int) / 256 / 256 / 256 / 256 / 256 % 256, (n : Int) / 256 / 256 / 256 / 256 % 256, (n : Int) / 256 / 256 / 256 % 256, (n : Int) / 256 / 256 % 256, (n : Int) / 256 % 256, (n : Int) % 256] : List Int) = [((n / 256 / 256 / 256 / 256 / 256 / 256 / 256 % 256 : Nat) : Int), ((n / 256 / 256 / 256 / 256 / 256 / 256 % 256 : Nat) : Int), ((n / 256 / 256 / 256 / 256 / 256 % 256 : Nat) : Int), ((n / 256 / 256 / 256 / 256 % 256 : Nat) : Int), ((n / 256 / 256 / 256 % 256 : Nat) : Int), ((n / 256 / 256 % 256 : Nat) : Int), ((n / 256 % 256 : Nat) : Int), ((n % 256 : Nat) : Int)] := by simp
  rw [e]
  simp only [strOfNums, List.map, Int.toNat_natCast]
  simp [Sg.be]
theorem be_8' (n : Nat) (hn : n < 18446744073709551616) : strOfNums [(n : Int) / 256 / 256 / 256 / 256 / 256 / 256 / 256, (n : Int) / 256 / 256 / 256 / 256 / 256 / 256 % 256, (n : Int) / 256 / 256 / 256 / 256 / 256 % 256, (n : Int) / 256 / 256 / 256 / 256 % 256, (n : Int) / 256 / 256 / 256 % 256, (n : Int) / 256 / 256 % 256, (n : Int) / 256 % 256, (n : Int) % 256] = ⟨(Sg.be n 8).toArray⟩ := by
  have e : (n : Int) / 256 / 256 / 256 / 256 / 256 / 256 / 256 = (n : Int) / 256 / 256 / 256 / 256 / 256 / 256 / 256 % 256 := by omega
  rw [e]; exact be_8 n
set_option maxHeartbeats 1000000 in
theorem tail_8 (n : Nat) (w : World) (hn : n < 18446744073709551616) :
    Calls Tryd.prog 11 #[.int .u64 n, .int .i64 8] w fun e w' => e = .returned (.string ⟨(Sg.be n 8).toArray⟩) ∧ Below w.heap.size w w' := by
  have hmk : ∀ w, (Instr.makeSlice 36 (.int .i64 8) (.int .i64 8)).run Tryd.prog w = .ok (.slice (some ⟨w.heap.size, 0, none⟩) 8 8) (w.alloc (.cells #[.int .u8 0, .int .u8 0, .int .u8 0, .int .u8 0, .int .u8 0, .int .u8 0, .int .u8 0, .int .u8 0] 5)) := fun _ => by kernel_rfl
  have hcv : ∀ (w : World) (x0 x1 x2 x3 x4 x5 x6 x7 : Int), (convert 36 9 (.slice (some ⟨w.heap.size, 0, none⟩) 8 8)).run Tryd.prog (w.alloc (.cells #[.int .u8 x0, .int .u8 x1, .int .u8 x2, .int .u8 x3, .int .u8 x4, .int .u8 x5, .int .u8 x6, .int .u8 x7] 5)) =
      .ok (.string (strOfNums [x0, x1, x2, x3, x4, x5, x6, x7])) (w.alloc (.cells #[.int .u8 x0, .int .u8 x1, .int .u8 x2, .int .u8 x3, .int .u8 x4, .int .u8 x5, .int .u8 x6, .int .u8 x7] 5)) := fun w x0 x1 x2 x3 x4 x5 x6 x7 => conv_lit w [x0, x1, x2, x3, x4, x5, x6, x7]
  go_enter Tryd.func11, Tryd.ntmps11
  go_wp2
  refine wp_loop_rounds 9 ?_
  rw [rounds_succ]
  go_wp2
  rw [rounds_succ]
  go_wp2
  rw [rounds_succ]
  go_wp2
  rw [rounds_succ]
  go_wp2
  rw [rounds_succ]
  go_wp2
  rw [rounds_succ]
  go_wp2
  rw [rounds_succ]
  go_wp2
  rw [rounds_succ]
  go_wp2
  rw [rounds_succ]
  go_wp2
  go_ret
  exact ⟨congrArg (fun s => Ending.returned (Value.string s)) (be_8' n hn), (Below.refl _ _).alloc (Nat.le_refl _) _⟩
end Go.Proofs.YtfcnbdhpdpcmgaaDoor
