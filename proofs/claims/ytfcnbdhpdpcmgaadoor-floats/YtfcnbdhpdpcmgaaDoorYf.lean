import Derived.Test.YtfcnbdhpdpcmgaaDoorYe
namespace Go.Proofs.YtfcnbdhpdpcmgaaDoor
open Go.RowKit
theorem shr_run {o k : Nat} (ho : o < 18446744073709551616) {c : Int} (hc : c = (k : Int)) : Op.shift .shr .u64 (o : Int) .i64 c = pure (.int .u64 ((o / 2 ^ k : Nat) : Int)) := by
  rw [hc, shift_shr_any _ _ _ _ (by omega)]
  have e1 : (o : Int) / 2 ^ min (k : Int).toNat IntKind.u64.bits = ((o / 2 ^ k : Nat) : Int) := by
    show (o : Int) / 2 ^ min (k : Int).toNat 64 = ((o / 2 ^ k : Nat) : Int)
    rw [Int.toNat_natCast]
    by_cases hk : k ≤ 64
    · rw [Nat.min_eq_left hk]; push_cast; rfl
    · rw [Nat.min_eq_right (by omega)]
      have z1 : o / 2 ^ k = 0 := Nat.div_eq_of_lt (Nat.lt_of_lt_of_le ho (by rw [show (18446744073709551616 : Nat) = 2 ^ 64 by decide]; exact Nat.pow_le_pow_right (by omega) (by omega)))
      rw [z1]
      have z2 : o / 2 ^ 64 = 0 := Nat.div_eq_of_lt (by simpa using ho)
      have z3 : ((o / 2 ^ 64 : Nat) : Int) = (o : Int) / 2 ^ 64 := by rw [Int.natCast_ediv, Int.natCast_pow]; rfl
      rw [← z3, z2]
  rw [e1]
theorem or_low (i a : Nat) (h : a < 2 ^ i) (hi : 2 ^ i + 2 ^ i ≤ 18446744073709551616) {P : Int} (hP : P = ((2 ^ i : Nat) : Int)) : bits .or .u64 (a : Int) P = ((a + 2 ^ i : Nat) : Int) := by
  rw [hP, u64_or_nat _ _ (by omega) (by omega), Nat.or_comm, nat_join i _ _ (Nat.mod_self _) h, Nat.add_comm]
theorem y_narrowed5 (n s E q : Nat) (w : World) (h : Tabs w) (hn : n < 18446744073709551616) (es : n / 9223372036854775808 = s) (eE : n / 4503599627370496 % 2048 = E) (eq : n % 4503599627370496 = q) (hE1 : 1 ≤ E) (hE2 : E ≤ 2046) : Calls Tryd.prog 38 #[lay 5 10, .int .u64 n] w fun e w' => e = .returned (.int .u64 (Sg.narrow16 s E q)) ∧ Below w.heap.size w w' := by
  have hs : s < 2 := by omega
  have hq : q < 4503599627370496 := by omega
  go_enter Tryd.func38, Tryd.ntmps38
  go_upto_region 1 with fail
  have I0 := In.first 5 10 h
  generalize w.alloc (.cells #[.int .i64 5, .int .i64 10] 76) = W at *
  obtain ⟨_, ⟨_, t0, t1, _, _, _, _⟩, _, d0, d1⟩ := id I0
  go_wp2_with fail
  refine (y_split11 n _ hn).mono ?_
  rw [es, eE, eq]
  rintro e w1 ⟨rfl, hb1⟩
  have I1 := I0.next hb1
  clear hb1 I0 h t0 t1 d0 d1
  obtain ⟨_, ⟨_, t0, t1, _, _, _, _⟩, _, d0, d1⟩ := id I1
  go_wp2_with fail
  refine (y_further5 _ I1.tabs).mono ?_
  rintro e w2 ⟨rfl, hb2⟩
  have I2 := I1.next hb2
  clear hb2 I1 t0 t1 d0 d1
  obtain ⟨_, ⟨_, t0, t1, _, _, _, _⟩, _, d0, d1⟩ := id I2
  have HN : Hid (Sg.narrow16 s E q = if 1039 ≤ E then 0 else if E ≤ 1008 then s * 32768 + (q / 4398046511104 + 1024) / 2 ^ (1009 - E) else s * 32768 + (E - 1008) * 1024 + q / 4398046511104) := rfl
  have hQ : q / 4398046511104 < 1024 := by omega
  go_upto_block 0 with fail
  have eQ : (q : Int) / 4398046511104 = ((q / 4398046511104 : Nat) : Int) := by omega
  rw [eQ]
  generalize q / 4398046511104 = Q at *
  clear eQ
  go_wp2_with fail
  refine (y_top11 _).mono ?_
  rintro e w3 ⟨rfl, hb3⟩
  have I3 := I2.next hb3
  clear hb3 I2 t0 t1 d0 d1
  obtain ⟨_, ⟨_, t0, t1, _, _, _, _⟩, _, d0, d1⟩ := id I3
  have b1 : ((E : Int) == 2047) = false := by simp; omega
  go_wp2_with fail
  refine (y_top5 _).mono ?_
  rintro e w4 ⟨rfl, hb4⟩
  have I4 := I3.next hb4
  clear hb4 I3 t0 t1 d0 d1
  obtain ⟨_, ⟨_, t0, t1, _, _, _, _⟩, _, d0, d1⟩ := id I4
  by_cases h1 : 1039 ≤ E
  · have b2 : decide ((31 : Int) ≤ (E : Int) - 1008) = true := by simp; omega
    go_wp2_with fail
    go_ret
    exact ⟨ret_u64 (by rw [HN.out, if_pos h1]; rfl), I4.bel⟩
  have b2 : decide ((31 : Int) ≤ (E : Int) - 1008) = false := by simp; omega
  by_cases h2 : E ≤ 1008
  · have b3 : decide ((E : Int) - 1008 ≤ 0) = true := by simp; omega
    obtain ⟨Z, hZ⟩ : ∃ Z, Q + 1024 = Z := ⟨_, rfl⟩
    obtain ⟨V, hV⟩ : ∃ V, Z / 2 ^ (1009 - E) = V := ⟨_, rfl⟩
    have hV2 : V < 1024 := by
      rw [← hV, show (2 : Nat) ^ (1009 - E) = 2 * 2 ^ (1008 - E) by rw [show 1009 - E = (1008 - E) + 1 by omega, Nat.pow_succ, Nat.mul_comm], ← Nat.div_div_eq_div_mul]
      exact Nat.lt_of_le_of_lt (Nat.div_le_self _ _) (by omega)
    have o0 : IntKind.u64.wrap 1024 = 1024 := by decide
    have o1 : bits .or .u64 (Q : Int) 1024 = (Z : Int) := by rw [← hZ]; exact or_low 10 Q (by omega) (by decide) rfl
    have s1 : Op.shift .shr .u64 (Z : Int) .i64 (IntKind.i64.wrap (1 - ((E : Int) - 1008))) = pure (.int .u64 (V : Int)) := by
      rw [← hV]; exact shr_run (by omega) (by rw [wraps_i64 _ (by omega) (by omega)]; omega)
    have HN2 : Hid (Sg.narrow16 s E q = s * 32768 + 0 * 1024 + V) := by
      show Sg.narrow16 s E q = _
      rw [HN.out, if_neg h1, if_pos h2, hZ, hV]; omega
    clear hV hZ
    go_wp2_with fail
    have k0 := cell_regrown d0
    have k1 := cell_regrown d1
    refine wp_region_quiet_below (by kernel_rfl) (by kernel_rfl) ?_
    repeat (quiet_step (fail))
    refine wpQuiet_nil ?_
    intro _ hw'
    obtain ⟨⟨dq, osq⟩, hw''⟩ := hw'
    subst hw''
    have I5 := I4.next (below_regrown w4 dq osq)
    generalize Sort.grow (redrawn w4 dq) osq = w5 at *
    clear k0 k1 t0 t1 d0 d1 I4
    obtain ⟨_, ⟨_, t0, t1, _, _, _, _⟩, _, d0, d1⟩ := id I5
    go_wp2_with fail
    refine (y_joined5 s 0 V _ hs (by omega) hV2).mono ?_
    rintro e6 w6 ⟨rfl, hb6⟩
    have I6 := I5.next hb6
    go_wp2_with fail
    go_ret
    exact ⟨ret_u64 (by rw [HN2.out]; omega), I6.bel⟩
  · have b3 : decide ((E : Int) - 1008 ≤ 0) = false := by simp; omega
    have HN2 : Hid (Sg.narrow16 s E q = s * 32768 + (E - 1008) * 1024 + Q) := by
      show Sg.narrow16 s E q = _
      rw [HN.out, if_neg h1, if_neg h2]
    go_wp2_with fail
    rw [show (E : Int) - 1008 = ((E - 1008 : Nat) : Int) by omega]
    refine (y_joined5 s (E - 1008) Q _ hs (by omega) hQ).mono ?_
    rintro e6 w6 ⟨rfl, hb6⟩
    have I6 := I4.next hb6
    go_wp2_with fail
    go_ret
    exact ⟨ret_u64 (by rw [HN2.out]; omega), I6.bel⟩
end Go.Proofs.YtfcnbdhpdpcmgaaDoor
