import Derived.Test.YtfcnbdhpdpcmgaaDoorYo
import Derived.Laws.IdiomStrings
namespace Go.Proofs.YtfcnbdhpdpcmgaaDoor
open Go.RowKit
theorem y_size25 (w : World) : Calls Tryd.prog 83 #[.int .u8 25] w fun e w' => e = .returned (.int .i64 2) ∧ w' = w := by
  go_enter Tryd.func83, Tryd.ntmps83
  go_wp2_with fail
  go_ret
  exact ⟨rfl, rfl⟩
theorem y_size26 (w : World) : Calls Tryd.prog 83 #[.int .u8 26] w fun e w' => e = .returned (.int .i64 4) ∧ w' = w := by
  go_enter Tryd.func83, Tryd.ntmps83
  go_wp2_with fail
  go_ret
  exact ⟨rfl, rfl⟩
theorem num_take {l : Sg.Bytes} {j : Nat} (h : j < l.length) : Sg.num (l.take (j + 1)) = 256 * Sg.num (l.take j) + l[j].toNat := by
  rw [List.take_succ_eq_append_getElem h, Sg.num_snoc]
set_option maxRecDepth 100000 in
theorem y_numberOf (l : Sg.Bytes) (w : World) (hl : l.length ≤ 4) : Calls Tryd.prog 84 #[str l] w fun e w' => e = .returned (.int .u64 (Sg.num l)) ∧ Below w.heap.size w w' := by
  have hcv := run_bytes_of_string (P := Tryd.prog) w 9 36 5 ⟨l.toArray⟩ Tryd.underlying9 Tryd.underlying36 Tryd.underlying5
  have hsz : (⟨l.toArray⟩ : ByteArray).size = l.length := by simp [ByteArray.size]
  rw [hsz] at hcv
  obtain ⟨C, hC⟩ : ∃ C, grownCap w l.length 0 5 = C := ⟨_, rfl⟩
  rw [hC] at hcv
  obtain ⟨F, hF⟩ : ∃ F, ((bytesRow ⟨l.toArray⟩ C).size, (bytesRow ⟨l.toArray⟩ C).size + 1) = F := ⟨_, rfl⟩
  rw [hF] at hcv
  have hcell : ∀ j (h : j < l.length), (w.drew.alloc (.cells (bytesRow ⟨l.toArray⟩ C) 5 F)).cell? ⟨w.heap.size, j, none⟩ = some (.int .u8 (l[j].toNat : Int)) := by
    intro j h
    have hh : (w.drew.alloc (.cells (bytesRow ⟨l.toArray⟩ C) 5 F)).heap[w.heap.size]? = some (.cells (bytesRow ⟨l.toArray⟩ C) 5 F) := blk_new w.drew _
    unfold World.cell?
    simp only [hh]
    have := bytesRow_at ⟨l.toArray⟩ C j (by simpa using h)
    simpa using this
  have hb1 : Below w.heap.size w (w.drew.alloc (.cells (bytesRow ⟨l.toArray⟩ C) 5 F)) := ((Below.refl _ _).drew).alloc (Nat.le_refl _) _
  generalize w.drew.alloc (.cells (bytesRow ⟨l.toArray⟩ C) 5 F) = w1 at *
  go_enter Tryd.func84, Tryd.ntmps84
  go_wp2_with fail
  clear hcv hC hF
  go_loop [3, 9] (fun a i => ∃ j : Nat, j ≤ l.length ∧ a = .int .u64 (Sg.num (l.take j) : Nat) ∧ i = .int .i64 j) (fun _ i => 5 - (intOf i).toNat)
  case atStart => exact ⟨0, by omega, rfl, rfl⟩
  case round =>
    obtain ⟨j, hj, rfl, rfl⟩ := hrel
    by_cases h : j < l.length
    · have d := hcell j h
      clear hcell
      have hx : l[j].toNat < 256 := l[j].toNat_lt
      have hnt := num_take h
      have hlt : Sg.num (l.take j) < 16777216 := by
        have h1 := Sg.num_lt (l.take j)
        have h2 : (l.take j).length ≤ 3 := by simp; omega
        exact Nat.lt_of_lt_of_le h1 (by rw [show (16777216 : Nat) = 256 ^ 3 by decide]; exact Nat.pow_le_pow_right (by omega) h2)
      have Hnt : Hid (Sg.num (l.take (j + 1)) = 256 * Sg.num (l.take j) + l[j].toNat) := hnt
      clear hnt
      generalize l[j].toNat = x at *
      generalize Sg.num (l.take j) = N at *
      have o1 : bits .or .u64 ((N : Int) * 256) (x : Int) = ((N * 256 + x : Nat) : Int) := by
        rw [show (N : Int) * 256 = ((N * 256 : Nat) : Int) by push_cast; rfl]
        exact or_u64 8 (N * 256) x (by omega) (by omega) (by omega) (by omega)
      have b0 : decide ((j : Int) < (l.length : Int)) = true := by simp; omega
      go_wp2_with fail
      go_round
      case rel => exact ⟨j + 1, by omega, by rw [Hnt.out]; go_num, by go_num⟩
      case measure => simp [intOf]; omega
    · have ej : j = l.length := by omega
      subst ej
      rw [List.take_length]
      go_wp2_with fail
      go_ret
      exact ⟨rfl, hb1⟩
end Go.Proofs.YtfcnbdhpdpcmgaaDoor
