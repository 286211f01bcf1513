import Derived.Test.YtfcnbdhpdpcmgaaDoorValue
namespace Sg
/-- the bits of 16 that the program tries for a number of 64 -/
def narrow16 (s E q : Nat) : Nat := if 1039 ≤ E then 0 else if E ≤ 1008 then s * 32768 + (q / 2 ^ 42 + 1024) / 2 ^ (1009 - E) else s * 32768 + (E - 1008) * 1024 + q / 2 ^ 42
def narrow32 (s E q : Nat) : Nat := if 1151 ≤ E then 0 else if E ≤ 896 then s * 2147483648 + (q / 2 ^ 29 + 8388608) / 2 ^ (897 - E) else s * 2147483648 + (E - 896) * 8388608 + q / 2 ^ 29
theorem sub_shift {q a b c : Nat} (h : (2 ^ 52 + q) / 2 ^ a = c) : c / 2 ^ b = (2 ^ 52 + q) / 2 ^ (a + b) := by
  rw [← h, Nat.div_div_eq_div_mul, ← Nat.pow_add]
theorem narrow16_parts {s E q : Nat} (_hs : s < 2) (hE1 : 1 ≤ E) (hq : q < 2 ^ 52) : ∃ x m, x < 31 ∧ m < 1024 ∧ (narrow16 s E q = s * 32768 + x * 1024 + m ∨ (narrow16 s E q = 0 ∧ 1039 ≤ E)) := by
  unfold narrow16
  by_cases h1 : 1039 ≤ E
  · rw [if_pos h1]; exact ⟨0, 0, by omega, by omega, .inr ⟨rfl, h1⟩⟩
  rw [if_neg h1]
  by_cases h2 : E ≤ 1008
  · rw [if_pos h2]
    refine ⟨0, (q / 2 ^ 42 + 1024) / 2 ^ (1009 - E), by omega, ?_, .inl (by omega)⟩
    have e : (2 : Nat) ^ (1009 - E) = 2 * 2 ^ (1008 - E) := by rw [show 1009 - E = (1008 - E) + 1 by omega, Nat.pow_succ, Nat.mul_comm]
    rw [e, ← Nat.div_div_eq_div_mul]
    exact Nat.lt_of_le_of_lt (Nat.div_le_self _ _) (by omega)
  · rw [if_neg h2]
    exact ⟨E - 1008, q / 2 ^ 42, by omega, by omega, .inl rfl⟩
theorem narrow32_parts {s E q : Nat} (_hs : s < 2) (hE1 : 1 ≤ E) (hq : q < 2 ^ 52) : ∃ x m, x < 255 ∧ m < 8388608 ∧ (narrow32 s E q = s * 2147483648 + x * 8388608 + m ∨ (narrow32 s E q = 0 ∧ 1151 ≤ E)) := by
  unfold narrow32
  by_cases h1 : 1151 ≤ E
  · rw [if_pos h1]; exact ⟨0, 0, by omega, by omega, .inr ⟨rfl, h1⟩⟩
  rw [if_neg h1]
  by_cases h2 : E ≤ 896
  · rw [if_pos h2]
    refine ⟨0, (q / 2 ^ 29 + 8388608) / 2 ^ (897 - E), by omega, ?_, .inl (by omega)⟩
    have e : (2 : Nat) ^ (897 - E) = 2 * 2 ^ (896 - E) := by rw [show 897 - E = (896 - E) + 1 by omega, Nat.pow_succ, Nat.mul_comm]
    rw [e, ← Nat.div_div_eq_div_mul]
    exact Nat.lt_of_le_of_lt (Nat.div_le_self _ _) (by omega)
  · rw [if_neg h2]
    exact ⟨E - 896, q / 2 ^ 29, by omega, by omega, .inl rfl⟩
/-- if the number is one of 16 bits, they are these -/
theorem narrow16_some {s E q k : Nat} (hs : s < 2) (hE1 : 1 ≤ E) (hE2 : E ≤ 2046) (hq : q < 2 ^ 52) (h : packed 5 10 (s * 2 ^ 63 + E * 2 ^ 52 + q) = some k) : narrow16 s E q = k := by
  rw [packed_16 s E q hs (by omega) hq, if_neg (by omega), if_neg (by omega), if_neg (by omega)] at h
  unfold narrow16
  by_cases h1 : 1039 ≤ E
  · rw [if_pos (by omega)] at h; cases h
  rw [if_neg (by omega)] at h
  rw [if_neg h1]
  by_cases h2 : E ≤ 1008
  · rw [if_neg (by omega)] at h
    rw [if_pos h2]
    split at h
    · replace h := Option.some.inj h
      rw [← h, sub_shift (a := 42) (q := q) (by omega), show 42 + (1009 - E) = 1051 - E by omega]
    · cases h
  · rw [if_pos (by omega)] at h
    rw [if_neg h2]
    split at h
    · replace h := Option.some.inj h
      rw [← h]; rw [show E + 15 - 1023 = E - 1008 by omega]
    · cases h
theorem narrow32_some {s E q k : Nat} (hs : s < 2) (hE1 : 1 ≤ E) (hE2 : E ≤ 2046) (hq : q < 2 ^ 52) (h : packed 8 23 (s * 2 ^ 63 + E * 2 ^ 52 + q) = some k) : narrow32 s E q = k := by
  rw [packed_32 s E q hs (by omega) hq, if_neg (by omega), if_neg (by omega), if_neg (by omega)] at h
  unfold narrow32
  by_cases h1 : 1151 ≤ E
  · rw [if_pos (by omega)] at h; cases h
  rw [if_neg (by omega)] at h
  rw [if_neg h1]
  by_cases h2 : E ≤ 896
  · rw [if_neg (by omega)] at h
    rw [if_pos h2]
    split at h
    · replace h := Option.some.inj h
      rw [← h, sub_shift (a := 29) (q := q) (by omega), show 29 + (897 - E) = 926 - E by omega]
    · cases h
  · rw [if_pos (by omega)] at h
    rw [if_neg h2]
    split at h
    · replace h := Option.some.inj h
      rw [← h]; rw [show E + 127 - 1023 = E - 896 by omega]
    · cases h
/-- if it is none, these widened are another -/
theorem narrow16_none {s E q : Nat} (hs : s < 2) (hE1 : 1 ≤ E) (hq : q < 2 ^ 52) (h : packed 5 10 (s * 2 ^ 63 + E * 2 ^ 52 + q) = none) : widened 5 10 (narrow16 s E q) ≠ s * 2 ^ 63 + E * 2 ^ 52 + q := by
  intro c
  obtain ⟨x, m, hx, hm, hk | ⟨hk, h1⟩⟩ := narrow16_parts hs hE1 hq
  · rw [hk] at c
    have := packed_widened_16 s x m hs (by omega) hm (by omega)
    rw [c, h] at this
    cases this
  · rw [hk, show widened 5 10 0 = 0 by decide] at c
    omega
theorem narrow32_none {s E q : Nat} (hs : s < 2) (hE1 : 1 ≤ E) (hq : q < 2 ^ 52) (h : packed 8 23 (s * 2 ^ 63 + E * 2 ^ 52 + q) = none) : widened 8 23 (narrow32 s E q) ≠ s * 2 ^ 63 + E * 2 ^ 52 + q := by
  intro c
  obtain ⟨x, m, hx, hm, hk | ⟨hk, h1⟩⟩ := narrow32_parts hs hE1 hq
  · rw [hk] at c
    have := packed_widened_32 s x m hs (by omega) hm (by omega)
    rw [c, h] at this
    cases this
  · rw [hk, show widened 8 23 0 = 0 by decide] at c
    omega
theorem narrow16_lt {s E q : Nat} (hs : s < 2) (hE1 : 1 ≤ E) (hq : q < 2 ^ 52) : narrow16 s E q < 65536 := by
  obtain ⟨x, m, hx, hm, hk | ⟨hk, h1⟩⟩ := narrow16_parts hs hE1 hq <;> omega
theorem narrow32_lt {s E q : Nat} (hs : s < 2) (hE1 : 1 ≤ E) (hq : q < 2 ^ 52) : narrow32 s E q < 4294967296 := by
  obtain ⟨x, m, hx, hm, hk | ⟨hk, h1⟩⟩ := narrow32_parts hs hE1 hq <;> omega
end Sg
