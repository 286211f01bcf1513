import Derived.Test.YtfcnbdhpdpcmgaaDoorPact
namespace Go.Proofs.YtfcnbdhpdpcmgaaDoor
open Go.RowKit

theorem scl_step {m t : Nat} (hm : 1 ≤ m) : (m * 2 ^ t < 4503599627370496 ↔ t + m.log2 < 52) := by
  have h1 := Nat.log2_self_le (n := m) (by omega)
  have h2 : m < 2 ^ (m.log2 + 1) := Nat.lt_log2_self
  have e : (4503599627370496 : Nat) = 2 ^ 52 := by decide
  rw [e]
  constructor
  · intro h
    have h3 : 2 ^ (m.log2 + t) ≤ m * 2 ^ t := by rw [Nat.pow_add]; exact Nat.mul_le_mul_right _ h1
    have := (Nat.pow_lt_pow_iff_right (a := 2) (by omega)).1 (Nat.lt_of_le_of_lt h3 h)
    omega
  · intro h
    have h3 : m * 2 ^ t < 2 ^ (m.log2 + 1) * 2 ^ t := Nat.mul_lt_mul_of_pos_right h2 (Nat.two_pow_pos _)
    rw [← Nat.pow_add] at h3
    exact Nat.lt_of_lt_of_le h3 (Nat.pow_le_pow_right (by omega) (by omega))

theorem ret_u64 {a b : Int} (h : a = b) : Ending.returned (.int .u64 a) = .returned (.int .u64 b) := by rw [h]
set_option maxHeartbeats 400000 in
theorem scaled_any (m : Nat) (x : Int) (w : World) (hm : 1 ≤ m) (hm2 : m < 16777216) (hx : -149 ≤ x) (hx2 : x ≤ 104) :
    Calls Tryd.prog 12 #[.int .u64 m, .int .i64 x] w fun e w' => e = .returned (.int .u64 (Sg.scaledN m x)) ∧ w' = w := by
  have hL : m.log2 < 24 := (Nat.log2_lt (by omega)).2 (by simpa using hm2)
  go_enter Tryd.func12, Tryd.ntmps12
  go_wp2
  go_loop [0, 1] (fun a b => ∃ t : Nat, t + m.log2 ≤ 52 ∧ a = .int .u64 ((m * 2 ^ t : Nat) : Int) ∧ b = .int .i64 (x - t)) (fun _ b => (intOf b + 300).toNat)
  case atStart => exact ⟨0, by omega, by simp, by simp⟩
  case round =>
    obtain ⟨t, ht, rfl, rfl⟩ := hrel
    have hst := scl_step (t := t) hm
    generalize hq : m * 2 ^ t = q at *
    by_cases h : q < 4503599627370496
    · have h' : (q : Int) < 4503599627370496 := by omega
      have ht2 := hst.1 h
      have Hq : Hid (m * 2 ^ t = q) := hq
      clear hq hst
      go_wp2
      go_round
      case rel => exact ⟨t + 1, by omega, by rw [Nat.pow_succ, ← Nat.mul_assoc, Hq.out]; go_num, by go_num⟩
      case measure => simp [intOf]; omega
    · have ht2 : t = 52 - m.log2 := by have := mt hst.2 h; omega
      have Hq : Hid (m * 2 ^ t = q) := hq
      have hq1 : q < 9007199254740992 := by
        have h2 : m < 2 ^ (m.log2 + 1) := Nat.lt_log2_self
        have h3 : m * 2 ^ t < 2 ^ (m.log2 + 1) * 2 ^ t := Nat.mul_lt_mul_of_pos_right h2 (Nat.two_pow_pos _)
        rw [← Nat.pow_add, hq] at h3
        have e : m.log2 + 1 + t = 53 := by omega
        rw [e] at h3; simpa using h3
      have h' : ¬ (q : Int) < 4503599627370496 := by omega
      clear hq hst
      have Ht : Hid (t = 52 - m.log2) := ht2
      clear ht2
      go_wp2
      go_ret
      refine ⟨ret_u64 ?_, rfl⟩
      have e1 := Ht.out
      have e2 := Hq.out
      unfold Sg.scaledN
      rw [← e1, e2]
      omega
end Go.Proofs.YtfcnbdhpdpcmgaaDoor
