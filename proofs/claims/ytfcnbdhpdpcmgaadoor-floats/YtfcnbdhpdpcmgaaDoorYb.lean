import Derived.Test.YtfcnbdhpdpcmgaaDoorYa
import Derived.Test.YtfcnbdhpdpcmgaaDoorFloatsA
namespace Go.Proofs.YtfcnbdhpdpcmgaaDoor
open Go.RowKit
theorem wraps_i64 (n : Int) (h0 : 0 ≤ n) (h1 : n < 2 ^ 62) : IntKind.i64.wrap n = n := by rw [IntKind.wrap_i64]; omega
theorem wraps_u64 (n : Int) (h0 : 0 ≤ n) (h1 : n < 2 ^ 64) : IntKind.u64.wrap n = n := by rw [IntKind.wrap_u64]; omega
theorem i64_mask (i a : Nat) (hi : i ≤ 62) (ha : a < 2 ^ 62) : bits .and .i64 (a : Int) (2 ^ i - 1) = ((a % 2 ^ i : Nat) : Int) := by
  have h := bits_mask .i64 62 (by decide) wraps_i64 i hi (a : Int) (by omega) (by exact_mod_cast ha)
  rw [h]; push_cast; rfl
theorem u64_mask (i a : Nat) (hi : i ≤ 64) (ha : a < 2 ^ 64) : bits .and .u64 (a : Int) (2 ^ i - 1) = ((a % 2 ^ i : Nat) : Int) := by
  have h := bits_mask .u64 64 (by decide) wraps_u64 i hi (a : Int) (by omega) (by exact_mod_cast ha)
  rw [h]; push_cast; rfl
theorem ret_i64 {a b : Int} (h : a = b) : Ending.returned (.int .i64 a) = .returned (.int .i64 b) := by rw [h]
theorem ret_bool {a b : Bool} (h : a = b) : Ending.returned (.bool a) = .returned (.bool b) := by rw [h]
theorem tup3 {a a' b b' c c' : Int} (h1 : a = a') (h2 : b = b') (h3 : c = c') : Ending.returned (.tuple #[.int .u64 a, .int .i64 b, .int .u64 c]) = .returned (.tuple #[.int .u64 a', .int .i64 b', .int .u64 c']) := by rw [h1, h2, h3]
theorem or_u64 (i a b : Nat) (ha : a % 2 ^ i = 0) (hb : b < 2 ^ i) (ha2 : a < 18446744073709551616) (hb2 : b < 18446744073709551616) : bits .or .u64 (a : Int) (b : Int) = ((a + b : Nat) : Int) := by
  rw [u64_or_nat _ _ ha2 hb2, nat_join i a b ha hb]
theorem joined_val (e p T P SE s x q : Nat) (hT : 2 ^ e = T) (hP : 2 ^ p = P) (hSE : T * P = SE) (h64 : 2 * SE ≤ 18446744073709551616) (hs : s < 2) (hx : x < T) (hq : q < P) (hP0 : 0 < P) :
    bits .or .u64 (IntKind.u64.wrap (bits .or .u64 (IntKind.u64.wrap ((s : Int) * T)) (IntKind.u64.wrap (x : Int)) * P)) (q : Int) = ((s * SE + x * P + q : Nat) : Int) := by
  have t1 : s * T + x < 2 * T := by
    have : s * T ≤ 1 * T := Nat.mul_le_mul_right _ (by omega)
    omega
  have t2 : (s * T + x) * P + P ≤ 2 * SE := by
    have : (s * T + x + 1) * P ≤ 2 * T * P := Nat.mul_le_mul_right _ (by omega)
    rw [Nat.add_mul, Nat.one_mul, Nat.mul_assoc, hSE] at this
    exact this
  have t3 : s * T + x ≤ (s * T + x) * P := Nat.le_mul_of_pos_right _ hP0
  have e1 : IntKind.u64.wrap ((s : Int) * T) = ((s * T : Nat) : Int) := by
    rw [← Int.natCast_mul]; exact wraps_u64 _ (by omega) (by omega)
  have e2 : IntKind.u64.wrap (x : Int) = ((x : Nat) : Int) := wraps_u64 _ (by omega) (by omega)
  rw [e1, e2, or_u64 e _ _ (by rw [hT]; exact Nat.mul_mod_left _ _) (by rw [hT]; exact hx) (by omega) (by omega)]
  have e3 : IntKind.u64.wrap (((s * T + x : Nat) : Int) * P) = (((s * T + x) * P : Nat) : Int) := by
    rw [← Int.natCast_mul]; exact wraps_u64 _ (by omega) (by omega)
  rw [e3, or_u64 p _ _ (by rw [hP]; exact Nat.mul_mod_left _ _) (by rw [hP]; exact hq) (by omega) (by omega), Nat.add_mul, Nat.mul_assoc, hSE]
theorem y_split11 (n : Nat) (w : World) (hn : n < 18446744073709551616) : Calls Tryd.prog 46 #[lay 11 52, .int .u64 n] w fun e w' => e = .returned (.tuple #[.int .u64 (n / 9223372036854775808 : Nat), .int .i64 (n / 4503599627370496 % 2048 : Nat), .int .u64 (n % 4503599627370496 : Nat)]) ∧ Below w.heap.size w w' := by
  have m0 : IntKind.i64.wrap ((n : Int) / 4503599627370496) = (n : Int) / 4503599627370496 := wraps_i64 _ (by omega) (by omega)
  have m2 : bits .and .u64 (n : Int) 4503599627370495 = ((n % 4503599627370496 : Nat) : Int) := u64_mask 52 n (by omega) (by omega)
  have m1 : bits .and .i64 ((n : Int) / 4503599627370496) 2047 = ((n / 4503599627370496 % 2048 : Nat) : Int) := i64_mask 11 (n / 4503599627370496) (by omega) (by omega)
  go_enter Tryd.func46, Tryd.ntmps46
  go_wp2_with fail
  obtain ⟨hb0, c0, c1⟩ := lay_block w 11 52
  generalize w.alloc (.cells #[.int .i64 11, .int .i64 52] 76) = W at *
  have k0 := cell_regrown c0
  have k1 := cell_regrown c1
  refine wp_region_quiet_below (by kernel_rfl) (by kernel_rfl) ?_
  repeat (quiet_step (first | exact Calls.regrown_of (y_top11 _)))
  refine wpQuiet_nil ?_
  intro _ hw'
  obtain ⟨⟨dq, osq⟩, hw''⟩ := hw'
  subst hw''
  go_wp2_with fail
  go_ret3
  refine ⟨tup3 ?_ ?_ ?_, hb0.trans ((below_regrown W dq osq).mono hb0.size)⟩
  · omega
  · omega
  · omega
theorem y_split5 (n : Nat) (w : World) (hn : n < 65536) : Calls Tryd.prog 46 #[lay 5 10, .int .u64 n] w fun e w' => e = .returned (.tuple #[.int .u64 (n / 32768 : Nat), .int .i64 (n / 1024 % 32 : Nat), .int .u64 (n % 1024 : Nat)]) ∧ Below w.heap.size w w' := by
  have m0 : IntKind.i64.wrap ((n : Int) / 1024) = (n : Int) / 1024 := wraps_i64 _ (by omega) (by omega)
  have m2 : bits .and .u64 (n : Int) 1023 = ((n % 1024 : Nat) : Int) := u64_mask 10 n (by omega) (by omega)
  have m1 : bits .and .i64 ((n : Int) / 1024) 31 = ((n / 1024 % 32 : Nat) : Int) := i64_mask 5 (n / 1024) (by omega) (by omega)
  go_enter Tryd.func46, Tryd.ntmps46
  go_wp2_with fail
  obtain ⟨hb0, c0, c1⟩ := lay_block w 5 10
  generalize w.alloc (.cells #[.int .i64 5, .int .i64 10] 76) = W at *
  have k0 := cell_regrown c0
  have k1 := cell_regrown c1
  refine wp_region_quiet_below (by kernel_rfl) (by kernel_rfl) ?_
  repeat (quiet_step (first | exact Calls.regrown_of (y_top5 _)))
  refine wpQuiet_nil ?_
  intro _ hw'
  obtain ⟨⟨dq, osq⟩, hw''⟩ := hw'
  subst hw''
  go_wp2_with fail
  go_ret3
  refine ⟨tup3 ?_ ?_ ?_, hb0.trans ((below_regrown W dq osq).mono hb0.size)⟩
  · omega
  · omega
  · omega
theorem y_split8 (n : Nat) (w : World) (hn : n < 4294967296) : Calls Tryd.prog 46 #[lay 8 23, .int .u64 n] w fun e w' => e = .returned (.tuple #[.int .u64 (n / 2147483648 : Nat), .int .i64 (n / 8388608 % 256 : Nat), .int .u64 (n % 8388608 : Nat)]) ∧ Below w.heap.size w w' := by
  have m0 : IntKind.i64.wrap ((n : Int) / 8388608) = (n : Int) / 8388608 := wraps_i64 _ (by omega) (by omega)
  have m2 : bits .and .u64 (n : Int) 8388607 = ((n % 8388608 : Nat) : Int) := u64_mask 23 n (by omega) (by omega)
  have m1 : bits .and .i64 ((n : Int) / 8388608) 255 = ((n / 8388608 % 256 : Nat) : Int) := i64_mask 8 (n / 8388608) (by omega) (by omega)
  go_enter Tryd.func46, Tryd.ntmps46
  go_wp2_with fail
  obtain ⟨hb0, c0, c1⟩ := lay_block w 8 23
  generalize w.alloc (.cells #[.int .i64 8, .int .i64 23] 76) = W at *
  have k0 := cell_regrown c0
  have k1 := cell_regrown c1
  refine wp_region_quiet_below (by kernel_rfl) (by kernel_rfl) ?_
  repeat (quiet_step (first | exact Calls.regrown_of (y_top8 _)))
  refine wpQuiet_nil ?_
  intro _ hw'
  obtain ⟨⟨dq, osq⟩, hw''⟩ := hw'
  subst hw''
  go_wp2_with fail
  go_ret3
  refine ⟨tup3 ?_ ?_ ?_, hb0.trans ((below_regrown W dq osq).mono hb0.size)⟩
  · omega
  · omega
  · omega
theorem y_joined11 (s x p : Nat) (w : World) (hs : s < 2) (hx : x < 2048) (hp : p < 4503599627370496) : Calls Tryd.prog 49 #[lay 11 52, .int .u64 s, .int .i64 x, .int .u64 p] w fun e w' => e = .returned (.int .u64 (s * 9223372036854775808 + x * 4503599627370496 + p : Nat)) ∧ Below w.heap.size w w' := by
  go_enter Tryd.func49, Tryd.ntmps49
  go_wp2_with fail
  obtain ⟨hb0, c0, c1⟩ := lay_block w 11 52
  generalize w.alloc (.cells #[.int .i64 11, .int .i64 52] 76) = W at *
  have k0 := cell_regrown c0
  have k1 := cell_regrown c1
  refine wp_region_quiet_below (by kernel_rfl) (by kernel_rfl) ?_
  repeat (quiet_step (fail))
  refine wpQuiet_nil ?_
  intro _ hw'
  obtain ⟨⟨dq, osq⟩, hw''⟩ := hw'
  subst hw''
  go_wp2_with fail
  go_ret
  exact ⟨ret_u64 (joined_val 11 52 2048 4503599627370496 9223372036854775808 s x p (by decide) (by decide) (by decide) (by decide) hs hx hp (by decide)), hb0.trans ((below_regrown W dq osq).mono hb0.size)⟩
theorem y_joined5 (s x p : Nat) (w : World) (hs : s < 2) (hx : x < 32) (hp : p < 1024) : Calls Tryd.prog 49 #[lay 5 10, .int .u64 s, .int .i64 x, .int .u64 p] w fun e w' => e = .returned (.int .u64 (s * 32768 + x * 1024 + p : Nat)) ∧ Below w.heap.size w w' := by
  go_enter Tryd.func49, Tryd.ntmps49
  go_wp2_with fail
  obtain ⟨hb0, c0, c1⟩ := lay_block w 5 10
  generalize w.alloc (.cells #[.int .i64 5, .int .i64 10] 76) = W at *
  have k0 := cell_regrown c0
  have k1 := cell_regrown c1
  refine wp_region_quiet_below (by kernel_rfl) (by kernel_rfl) ?_
  repeat (quiet_step (fail))
  refine wpQuiet_nil ?_
  intro _ hw'
  obtain ⟨⟨dq, osq⟩, hw''⟩ := hw'
  subst hw''
  go_wp2_with fail
  go_ret
  exact ⟨ret_u64 (joined_val 5 10 32 1024 32768 s x p (by decide) (by decide) (by decide) (by decide) hs hx hp (by decide)), hb0.trans ((below_regrown W dq osq).mono hb0.size)⟩
theorem y_joined8 (s x p : Nat) (w : World) (hs : s < 2) (hx : x < 256) (hp : p < 8388608) : Calls Tryd.prog 49 #[lay 8 23, .int .u64 s, .int .i64 x, .int .u64 p] w fun e w' => e = .returned (.int .u64 (s * 2147483648 + x * 8388608 + p : Nat)) ∧ Below w.heap.size w w' := by
  go_enter Tryd.func49, Tryd.ntmps49
  go_wp2_with fail
  obtain ⟨hb0, c0, c1⟩ := lay_block w 8 23
  generalize w.alloc (.cells #[.int .i64 8, .int .i64 23] 76) = W at *
  have k0 := cell_regrown c0
  have k1 := cell_regrown c1
  refine wp_region_quiet_below (by kernel_rfl) (by kernel_rfl) ?_
  repeat (quiet_step (fail))
  refine wpQuiet_nil ?_
  intro _ hw'
  obtain ⟨⟨dq, osq⟩, hw''⟩ := hw'
  subst hw''
  go_wp2_with fail
  go_ret
  exact ⟨ret_u64 (joined_val 8 23 256 8388608 2147483648 s x p (by decide) (by decide) (by decide) (by decide) hs hx hp (by decide)), hb0.trans ((below_regrown W dq osq).mono hb0.size)⟩
end Go.Proofs.YtfcnbdhpdpcmgaaDoor
