import Derived.Test.YtfcnbdhpdpcmgaaDoorYf
namespace Go.Proofs.YtfcnbdhpdpcmgaaDoor
open Go.RowKit
theorem y_narrowed8 (n s E q : Nat) (w : World) (h : Tabs w) (hn : n < 18446744073709551616) (es : n / 9223372036854775808 = s) (eE : n / 4503599627370496 % 2048 = E) (eq : n % 4503599627370496 = q) (hE1 : 1 ≤ E) (hE2 : E ≤ 2046) : Calls Tryd.prog 38 #[lay 8 23, .int .u64 n] w fun e w' => e = .returned (.int .u64 (Sg.narrow32 s E q)) ∧ Below w.heap.size w w' := by
  have hs : s < 2 := by omega
  have hq : q < 4503599627370496 := by omega
  go_enter Tryd.func38, Tryd.ntmps38
  go_upto_region 1 with fail
  have I0 := In.first 8 23 h
  generalize w.alloc (.cells #[.int .i64 8, .int .i64 23] 76) = W at *
  obtain ⟨_, ⟨_, t0, t1, _, _, _, _⟩, _, d0, d1⟩ := id I0
  go_wp2_with fail
  refine (y_split11 n _ hn).mono ?_
  rw [es, eE, eq]
  rintro e w1 ⟨rfl, hb1⟩
  have I1 := I0.next hb1
  clear hb1 I0 h t0 t1 d0 d1
  obtain ⟨_, ⟨_, t0, t1, _, _, _, _⟩, _, d0, d1⟩ := id I1
  go_wp2_with fail
  refine (y_further8 _ I1.tabs).mono ?_
  rintro e w2 ⟨rfl, hb2⟩
  have I2 := I1.next hb2
  clear hb2 I1 t0 t1 d0 d1
  obtain ⟨_, ⟨_, t0, t1, _, _, _, _⟩, _, d0, d1⟩ := id I2
  have HN : Hid (Sg.narrow32 s E q = if 1151 ≤ E then 0 else if E ≤ 896 then s * 2147483648 + (q / 536870912 + 8388608) / 2 ^ (897 - E) else s * 2147483648 + (E - 896) * 8388608 + q / 536870912) := rfl
  have hQ : q / 536870912 < 8388608 := by omega
  go_upto_block 0 with fail
  have eQ : (q : Int) / 536870912 = ((q / 536870912 : Nat) : Int) := by omega
  rw [eQ]
  generalize q / 536870912 = Q at *
  clear eQ
  go_wp2_with fail
  refine (y_top11 _).mono ?_
  rintro e w3 ⟨rfl, hb3⟩
  have I3 := I2.next hb3
  clear hb3 I2 t0 t1 d0 d1
  obtain ⟨_, ⟨_, t0, t1, _, _, _, _⟩, _, d0, d1⟩ := id I3
  have b1 : ((E : Int) == 2047) = false := by simp; omega
  go_wp2_with fail
  refine (y_top8 _).mono ?_
  rintro e w4 ⟨rfl, hb4⟩
  have I4 := I3.next hb4
  clear hb4 I3 t0 t1 d0 d1
  obtain ⟨_, ⟨_, t0, t1, _, _, _, _⟩, _, d0, d1⟩ := id I4
  by_cases h1 : 1151 ≤ E
  · have b2 : decide ((255 : Int) ≤ (E : Int) - 896) = true := by simp; omega
    go_wp2_with fail
    go_ret
    exact ⟨ret_u64 (by rw [HN.out, if_pos h1]; rfl), I4.bel⟩
  have b2 : decide ((255 : Int) ≤ (E : Int) - 896) = false := by simp; omega
  by_cases h2 : E ≤ 896
  · have b3 : decide ((E : Int) - 896 ≤ 0) = true := by simp; omega
    obtain ⟨Z, hZ⟩ : ∃ Z, Q + 8388608 = Z := ⟨_, rfl⟩
    obtain ⟨V, hV⟩ : ∃ V, Z / 2 ^ (897 - E) = V := ⟨_, rfl⟩
    have hV2 : V < 8388608 := by
      rw [← hV, show (2 : Nat) ^ (897 - E) = 2 * 2 ^ (896 - E) by rw [show 897 - E = (896 - E) + 1 by omega, Nat.pow_succ, Nat.mul_comm], ← Nat.div_div_eq_div_mul]
      exact Nat.lt_of_le_of_lt (Nat.div_le_self _ _) (by omega)
    have o0 : IntKind.u64.wrap 8388608 = 8388608 := by decide
    have o1 : bits .or .u64 (Q : Int) 8388608 = (Z : Int) := by rw [← hZ]; exact or_low 23 Q (by omega) (by decide) rfl
    have s1 : Op.shift .shr .u64 (Z : Int) .i64 (IntKind.i64.wrap (1 - ((E : Int) - 896))) = pure (.int .u64 (V : Int)) := by
      rw [← hV]; exact shr_run (by omega) (by rw [wraps_i64 _ (by omega) (by omega)]; omega)
    have HN2 : Hid (Sg.narrow32 s E q = s * 2147483648 + 0 * 8388608 + V) := by
      show Sg.narrow32 s E q = _
      rw [HN.out, if_neg h1, if_pos h2, hZ, hV]; omega
    clear hV hZ
    go_wp2_with fail
    have k0 := cell_regrown d0
    have k1 := cell_regrown d1
    refine wp_region_quiet_below (by kernel_rfl) (by kernel_rfl) ?_
    repeat (quiet_step (fail))
    refine wpQuiet_nil ?_
    intro _ hw'
    obtain ⟨⟨dq, osq⟩, hw''⟩ := hw'
    subst hw''
    have I5 := I4.next (below_regrown w4 dq osq)
    generalize Sort.grow (redrawn w4 dq) osq = w5 at *
    clear k0 k1 t0 t1 d0 d1 I4
    obtain ⟨_, ⟨_, t0, t1, _, _, _, _⟩, _, d0, d1⟩ := id I5
    go_wp2_with fail
    refine (y_joined8 s 0 V _ hs (by omega) hV2).mono ?_
    rintro e6 w6 ⟨rfl, hb6⟩
    have I6 := I5.next hb6
    go_wp2_with fail
    go_ret
    exact ⟨ret_u64 (by rw [HN2.out]; omega), I6.bel⟩
  · have b3 : decide ((E : Int) - 896 ≤ 0) = false := by simp; omega
    have HN2 : Hid (Sg.narrow32 s E q = s * 2147483648 + (E - 896) * 8388608 + Q) := by
      show Sg.narrow32 s E q = _
      rw [HN.out, if_neg h1, if_neg h2]
    go_wp2_with fail
    rw [show (E : Int) - 896 = ((E - 896 : Nat) : Int) by omega]
    refine (y_joined8 s (E - 896) Q _ hs (by omega) hQ).mono ?_
    rintro e6 w6 ⟨rfl, hb6⟩
    have I6 := I4.next hb6
    go_wp2_with fail
    go_ret
    exact ⟨ret_u64 (by rw [HN2.out]; omega), I6.bel⟩
end Go.Proofs.YtfcnbdhpdpcmgaaDoor
