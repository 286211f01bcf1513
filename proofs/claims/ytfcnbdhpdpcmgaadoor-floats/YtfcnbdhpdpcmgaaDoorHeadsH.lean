import Derived.Test.YtfcnbdhpdpcmgaaDoorPact
namespace Go.Proofs.YtfcnbdhpdpcmgaaDoor
open Go.RowKit

theorem shr_nat (n k : Int) (h0 : 0 ≤ n) (h1 : n < 18446744073709551616) : ∃ m : Nat, n / 2 ^ k.toNat = (m : Int) ∧ m < 18446744073709551616 := by
  obtain ⟨a, rfl⟩ := Int.eq_ofNat_of_zero_le h0
  refine ⟨a / 2 ^ k.toNat, by simp, ?_⟩
  have : a / 2 ^ k.toNat ≤ a := Nat.div_le_self _ _
  omega
/-- a list of one item, as Decode hands it back -/
theorem Holds.open_one {w : World} {v : Value} {k : Int} {n : Nat} {s : Sg.Bytes} (h : Holds w v [⟨k, n, s⟩]) : ∃ b off cap, v = .slice (some ⟨b, off, none⟩) 1 cap ∧ w.cell? ⟨b, off, none⟩ = some (.int .i64 k) ∧ w.cell? ⟨b, off + 1, none⟩ = some (.int .u64 n) ∧ w.cell? ⟨b, off + 2, none⟩ = some (str s) := by
  rcases h with ⟨_, _, _, h⟩ | ⟨b, off, cap, hv, _, hi⟩
  · simp at h
  · have h0 := hi 0 (by simp)
    exact ⟨b, off, cap, hv, by simpa using h0.1, by simpa using h0.2.1, by simpa using h0.2.2⟩
end Go.Proofs.YtfcnbdhpdpcmgaaDoor
