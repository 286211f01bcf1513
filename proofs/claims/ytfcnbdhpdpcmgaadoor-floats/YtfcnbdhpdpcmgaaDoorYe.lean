import Derived.Test.YtfcnbdhpdpcmgaaDoorYd
namespace Go.Proofs.YtfcnbdhpdpcmgaaDoor
open Go.RowKit
theorem y_widened8 (n : Nat) (w : World) (h : Tabs w) (hn : n < 4294967296) : Calls Tryd.prog 39 #[lay 8 23, .int .u64 n] w fun e w' => e = .returned (.int .u64 (Sg.widened 8 23 n)) ∧ Below w.heap.size w w' := by
  go_enter Tryd.func39, Tryd.ntmps39
  go_wp2_with fail
  have I0 := In.first 8 23 h
  generalize w.alloc (.cells #[.int .i64 8, .int .i64 23] 76) = W at *
  refine (y_split8 n _ hn).mono ?_
  have hs : n / 2147483648 < 2 := by omega
  have hx : n / 8388608 % 256 < 256 := by omega
  have hm : n % 8388608 < 8388608 := by omega
  have hwd := Sg.widened_eq_32 n
  generalize n / 2147483648 = s at *
  generalize n / 8388608 % 256 = x at *
  generalize n % 8388608 = m at *
  rintro e w1 ⟨rfl, hb1⟩
  have I1 := I0.next hb1
  clear hb1 I0 h
  have Hwd : Hid (Sg.widened 8 23 n = if x = 255 then s * 2 ^ 63 + 2047 * 2 ^ 52 + m * 2 ^ 29 else if x = 0 ∧ m = 0 then s * 2 ^ 63
      else if x = 0 then s * 2 ^ 63 + (873 + (m.log2 + 1)) * 2 ^ 52 + (m * 2 ^ (53 - (m.log2 + 1)) - 2 ^ 52)
      else s * 2 ^ 63 + (x + 1023 - 127) * 2 ^ 52 + m * 2 ^ 29) := hwd
  clear hwd
  obtain ⟨_, ⟨_, t0, t1, _, _, _, _⟩, _, d0, d1⟩ := id I1
  go_upto_block 0 with fail
  go_cut [6, 7] (fun a b wx => ∃ X P : Nat, a = .int .i64 (X : Int) ∧ b = .int .u64 (P : Int) ∧ X < 2048 ∧ P < 8388608 ∧ Sg.widened 8 23 n = s * 9223372036854775808 + X * 4503599627370496 + P * 536870912 ∧ In w w.heap.size 8 23 wx)
  case first =>
    go_wp2_with fail
    refine (y_top8 _).mono ?_
    rintro e2 w2 ⟨rfl, hb2⟩
    have I2 := I1.next hb2
    clear hb2 I1 t0 t1 d0 d1
    obtain ⟨_, ⟨_, t0, t1, _, _, _, _⟩, _, d0, d1⟩ := id I2
    by_cases h31 : x = 255
    · have b1 : ((x : Int) == 255) = true := by simp; omega
      go_wp2_with fail
      refine (y_top11 _).mono ?_
      rintro e3 w3 ⟨rfl, hb3⟩
      have I3 := I2.next hb3
      go_wp2_with fail
      go_meet
      exact ⟨2047, m, rfl, rfl, by omega, hm, by rw [Hwd.out, if_pos h31], I3⟩
    have b1 : ((x : Int) == 255) = false := by simp; omega
    by_cases h0 : x = 0
    · have b2 : decide ((0 : Int) < (x : Int)) = false := by simp; omega
      by_cases hm0 : m = 0
      · have b3 : decide ((0 : Int) < (m : Int)) = false := by simp; omega
        go_wp2_with fail
        go_meet
        exact ⟨0, 0, rfl, rfl, by omega, by omega, by rw [Hwd.out, if_neg h31, if_pos ⟨h0, hm0⟩]; omega, I2⟩
      · have b3 : decide ((0 : Int) < (m : Int)) = true := by simp; omega
        have hL := bitLen_log2 m hm0 (by omega)
        have hL2 : m.log2 < 23 := (Nat.log2_lt hm0).2 (by omega)
        have hq1 : 2 ^ m.log2 ≤ m := Nat.log2_self_le hm0
        have hq2 : m < 2 ^ (m.log2 + 1) := Nat.lt_log2_self
        have HL : Hid (Lib.bitLen m = m.log2 + 1) := hL
        clear hL
        have hy := y_len m
        rw [HL.out] at hy
        obtain ⟨k, hk⟩ : ∃ k, m.log2 = k := ⟨_, rfl⟩
        obtain ⟨q, hq⟩ : ∃ q, m * 2 ^ (23 - k) = q := ⟨_, rfl⟩
        have hqa : 8388608 ≤ q := by
          rw [← hq, show 8388608 = 2 ^ k * 2 ^ (23 - k) by rw [← Nat.pow_add, show k + (23 - k) = 23 by omega]]
          exact Nat.mul_le_mul_right _ (by rw [← hk]; exact hq1)
        have hqb : q < 16777216 := by
          rw [← hq, show 16777216 = 2 ^ (k + 1) * 2 ^ (23 - k) by rw [← Nat.pow_add, show k + 1 + (23 - k) = 24 by omega]]
          exact Nat.mul_lt_mul_of_pos_right (by rw [← hk]; exact hq2) (Nat.two_pow_pos _)
        have Hk : Hid (m.log2 = k) := hk
        have Hq : Hid (m * 2 ^ (23 - k) = q) := hq
        rw [hk] at hy hL2
        have hs1 : Op.shift .shl .u64 (m : Int) .i64 ((23 - k : Nat) : Int) = pure (.int .u64 (q : Int)) := shl_run (k := 23 - k) (by omega) hq (by omega) rfl
        have e8 : IntKind.i64.wrap (IntKind.i64.wrap 24 - ((k : Int) + 1)) = ((23 - k : Nat) : Int) := by rw [IntKind.wrap_i64, IntKind.wrap_i64]; omega
        have He8 : Hid (IntKind.i64.wrap (IntKind.i64.wrap 24 - ((k : Int) + 1)) = ((23 - k : Nat) : Int)) := e8
        clear e8
        clear hk hq hq1 hq2 HL
        go_wp2_with fail
        have k0 := cell_regrown d0
        have k1 := cell_regrown d1
        refine wp_region_quiet_below (by kernel_rfl) (by kernel_rfl) ?_
        repeat (quiet_step (first | exact Calls.regrown_of (same_below (hy _ (by omega)))))
        refine wpQuiet_nil ?_
        intro _ hw'
        obtain ⟨⟨dq, osq⟩, hw''⟩ := hw'
        subst hw''
        have I3 := I2.next (below_regrown w2 dq osq)
        generalize Sort.grow (redrawn w2 dq) osq = w3 at *
        clear k0 k1 t0 t1 d0 d1 I2
        obtain ⟨_, ⟨_, t0, t1, _, _, _, _⟩, _, d0, d1⟩ := id I3
        go_wp2_with fail
        refine (y_further8 _ I3.tabs).mono ?_
        rintro e4 w4 ⟨rfl, hb4⟩
        have I4 := I3.next hb4
        clear hb4 I3 t0 t1 d0 d1
        obtain ⟨_, ⟨_, t0, t1, _, _, _, _⟩, _, d0, d1⟩ := id I4
        go_wp2_with fail
        rw [He8.out]
        have k0 := cell_regrown d0
        have k1 := cell_regrown d1
        refine wp_region_quiet_below (by kernel_rfl) (by kernel_rfl) ?_
        repeat (quiet_step (fail))
        refine wpQuiet_nil ?_
        intro _ hw'
        obtain ⟨⟨dq, osq⟩, hw''⟩ := hw'
        subst hw''
        have I5 := I4.next (below_regrown w4 dq osq)
        generalize Sort.grow (redrawn w4 dq) osq = w5 at *
        clear k0 k1 t0 t1 d0 d1 I4
        go_wp2_with fail
        go_meet
        refine ⟨k + 874, q - 8388608, by go_num, sub_val (c := 8388608) Hq.out (by omega) (by omega) rfl, by omega, by omega, ?_, I5⟩
        rw [Hwd.out, if_neg h31, if_neg (by omega), if_pos h0, Hk.out]
        have e9 : m * 2 ^ (53 - (k + 1)) = q * 536870912 := by
          rw [← Hq.out, Nat.mul_assoc, show (536870912 : Nat) = 2 ^ 29 by decide, ← Nat.pow_add, show 23 - k + 29 = 53 - (k + 1) by omega]
        rw [e9]
        omega
    · have b2 : decide ((0 : Int) < (x : Int)) = true := by simp; omega
      go_wp2_with fail
      refine (y_further8 _ I2.tabs).mono ?_
      rintro e3 w3 ⟨rfl, hb3⟩
      have I3 := I2.next hb3
      go_wp2_with fail
      go_meet
      exact ⟨x + 896, m, by go_num, rfl, by omega, hm, by rw [Hwd.out, if_neg h31, if_neg (by omega), if_neg h0]; omega, I3⟩
  case rest =>
    obtain ⟨X, P, rfl, rfl, hX, hP, hv, I2⟩ := hcut
    clear Hwd I1
    have w42 : IntKind.i64.wrap 29 = 29 := by decide
    have w43 : IntKind.i64.wrap (52 - 23) = 29 := by decide
    have hs2 : Op.shift .shl .u64 (P : Int) .i64 29 = pure (.int .u64 ((P * 536870912 : Nat) : Int)) := shl_run (k := 29) (by omega) (by omega) (by omega) rfl
    obtain ⟨_, ⟨_, t0, t1, _, _, _, _⟩, _, d0, d1⟩ := id I2
    go_wp2_with fail
    have k0 := cell_regrown d0
    have k1 := cell_regrown d1
    have k2 := cell_regrown t0
    have k3 := cell_regrown t1
    refine wp_region_quiet_below (by kernel_rfl) (by kernel_rfl) ?_
    repeat (quiet_step (first | exact Calls.regrown_of (y_joined11 s X (P * 536870912) _ hs hX (by omega))))
    refine wpQuiet_nil ?_
    intro _ hw'
    obtain ⟨⟨dq, osq⟩, hw''⟩ := hw'
    subst hw''
    have I5 := I2.next (below_regrown wc dq osq)
    go_wp2_with fail
    go_ret
    exact ⟨ret_u64 (by rw [hv]; omega), I5.bel⟩
end Go.Proofs.YtfcnbdhpdpcmgaaDoor
