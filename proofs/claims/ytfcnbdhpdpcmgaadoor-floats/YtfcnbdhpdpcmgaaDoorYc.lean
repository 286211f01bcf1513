import Derived.Test.YtfcnbdhpdpcmgaaDoorYb
import Derived.Lib.BitFns
import Derived.Lib.Walk
namespace Go.Proofs.YtfcnbdhpdpcmgaaDoor
open Go.RowKit
theorem bitLen_log2 : ∀ (x : Nat), x ≠ 0 → x < 2 ^ 64 → Lib.bitLen x = x.log2 + 1 := by
  intro x
  induction x using Nat.strongRecOn with
  | _ x ih =>
    intro h0 h1
    rw [Lib.bitLen_half x h0 h1]
    by_cases h : x = 1
    · subst h; rfl
    · rw [ih (x / 2) (by omega) (by omega) (by omega), Nat.log2_def x, if_pos (by omega)]
      omega
theorem tab_len : ∀ n : Fin 256, ∀ h : n.val < Lib.len8tab.size, (Lib.len8tab[n.val]'h).toNat = Lib.bitLen n.val := by decide +kernel
theorem tab_len' (n : Nat) (hn : n < 256) (h : n < Lib.len8tab.size) : (Lib.len8tab[n]'h).toNat = Lib.bitLen n := tab_len ⟨n, hn⟩ h
set_option maxRecDepth 100000 in
set_option maxHeartbeats 4000000 in
theorem y_len (x : Nat) (w : World) (hx : x < 16777216) : Calls Tryd.prog 50 #[.int .u64 x] w fun e w' => e = .returned (.int .i64 (Lib.bitLen x)) ∧ w' = w := by
  have hz : Lib.len8tab.size = 256 := by decide +kernel
  have i1 : decide ((4294967296 : Int) ≤ (x : Int)) = false := by simp; omega
  by_cases h1 : 65536 ≤ x
  · have i2 : decide ((65536 : Int) ≤ (x : Int)) = true := by simp; omega
    have i3 : decide ((256 : Int) ≤ (x : Int) / 65536) = false := by simp; omega
    have l := Lib.bitLen_le8' ((x : Int) / 65536 % 256) (by omega) (by omega)
    have s := Lib.bitLen_shift16 x h1 (by omega)
    rw [show ((x : Int) / 65536 % 256).toNat = x / 65536 by omega] at l
    go_enter Tryd.func50, Tryd.ntmps50
    go_wp2_with fail
    go_ret
    refine ⟨ret_i64 ?_, rfl⟩
    rw [tab_len' _ (by omega)]; unfold wrap64; omega
  · have i2 : decide ((65536 : Int) ≤ (x : Int)) = false := by simp; omega
    by_cases h2 : 256 ≤ x
    · have i3 : decide ((256 : Int) ≤ (x : Int)) = true := by simp; omega
      have l := Lib.bitLen_le8' ((x : Int) / 256 % 256) (by omega) (by omega)
      have s := Lib.bitLen_shift8 x h2 (by omega)
      rw [show ((x : Int) / 256 % 256).toNat = x / 256 by omega] at l
      go_enter Tryd.func50, Tryd.ntmps50
      go_wp2_with fail
      go_ret
      refine ⟨ret_i64 ?_, rfl⟩
      rw [tab_len' _ (by omega)]; unfold wrap64; omega
    · have i3 : decide ((256 : Int) ≤ (x : Int)) = false := by simp; omega
      have l := Lib.bitLen_le8' ((x : Int) % 256) (by omega) (by omega)
      rw [show ((x : Int) % 256).toNat = x by omega] at l
      go_enter Tryd.func50, Tryd.ntmps50
      go_wp2_with fail
      go_ret
      refine ⟨ret_i64 ?_, rfl⟩
      rw [tab_len' _ (by omega)]; unfold wrap64; omega
end Go.Proofs.YtfcnbdhpdpcmgaaDoor
