import Derived.Test.YtfcnbdhpdpcmgaaDoorFloatsC
import Derived.Test.YtfcnbdhpdpcmgaaDoorHeadsH
import Derived.Deep.RegionWith
import Derived.Deep.CutRange
import Derived.Deep.DeepCutAuto
import Derived.Deep.LoopGhost
import Derived.BigQuiet
namespace Go.Proofs.YtfcnbdhpdpcmgaaDoor
open Go.RowKit

set_option maxRecDepth 100000 in
set_option maxHeartbeats 1000000 in
theorem floats_tab (raw : Int) (half : Bool) (w : World) (htab : Tabs w) (a1 : -9223372036854775808 ≤ raw) (a2 : raw ≤ 9223372036854775807) :
    Calls Tryd.prog 6 #[.int .i64 raw, .bool half] w fun e w' => e = .returned (.bool true) ∧ Below w.heap.size w w' := by
  go_enter Tryd.func6, Tryd.ntmps6
  go_wp2_with fail
  refine (pick_any _ 4294967296 _ a1 a2 (by omega) (by omega)).mono ?_
  obtain ⟨hf0, hf2⟩ := pickI_spec raw 4294967296 (by omega)
  obtain ⟨f, hf⟩ := Int.eq_ofNat_of_zero_le hf0
  rw [hf] at hf2 ⊢
  rintro e w1 ⟨rfl, rfl⟩
  clear a1 a2 hf0 hf
  go_upto_region 4 with fail
  obtain ⟨s, e, part, hs, he, hp, hfe⟩ := Sg.f4_32 f (by omega)
  have r1 : (f : Int) % 8388608 = part := by omega
  have r2 : (f : Int) / 8388608 % 256 = e := by omega
  have r3 : (f : Int) / 2 ^ 31 = s := by show (f : Int) / 2147483648 = s; omega
  rw [r1, r2]
  refine region4 _ rfl (by simp) rfl ?_
  rw [r3]
  have Hfe : Hid (f = s * 2147483648 + e * 8388608 + part) := hfe
  clear hfe r1 r2 r3
  simp only [Act.put, List.setIfInBounds_toArray, List.set_cons_succ, List.set_cons_zero]
  by_cases h255 : e = 255
  · have b1 : ((e : Int) == 255) = true := by simp; omega
    go_wp2_with fail
    go_ret
    exact ⟨rfl, Below.refl _ _⟩
  have b1 : ((e : Int) == 255) = false := by simp; omega
  by_cases h0 : e = 0 ∧ part = 0
  · have b2 : ((e : Int) == 0) = true := by simp; omega
    have b3 : ((part : Int) == 0) = true := by simp; omega
    go_wp2_with fail
    go_ret
    exact ⟨rfl, Below.refl _ _⟩
  go_upto_region 5 with fail
  go_cut [42] (fun c wx => c = .bool false ∧ wx = w1)
  case first =>
    by_cases he0 : e = 0
    · have b2 : ((e : Int) == 0) = true := by simp; omega
      have b3 : ((part : Int) == 0) = false := by simp; omega
      go_wp2_with fail
      go_meet
      exact ⟨rfl, rfl⟩
    · have b2 : ((e : Int) == 0) = false := by simp; omega
      go_wp2_with fail
      go_meet
      exact ⟨rfl, rfl⟩
  case rest =>
  obtain ⟨rfl, rfl⟩ := hcut
  go_upto_if 47 with fail
  go_cut [9, 10] (fun m x wx => m = .int .u64 ((if e = 0 then part else part + 8388608 : Nat) : Int) ∧ x = .int .i64 (if e = 0 then -149 else (e : Int) - 150) ∧ wx = wc)
  case first =>
    by_cases he0 : e = 0
    · have b2 : ((e : Int) == 0) = true := by simp; omega
      rw [b2]
      go_wp2_with fail
      go_meet
      exact ⟨by rw [if_pos he0], by rw [if_pos he0], rfl⟩
    · have b2 : ((e : Int) == 0) = false := by simp; omega
      rw [b2]
      go_wp2_with fail
      go_meet
      exact ⟨by rw [if_neg he0]; go_num, by rw [if_neg he0], rfl⟩
  case rest =>
    obtain ⟨rfl, rfl, rfl⟩ := hcut
    have m1 : 1 ≤ (if e = 0 then part else part + 8388608) := by split <;> omega
    have m2 : (if e = 0 then part else part + 8388608) < 16777216 := by split <;> omega
    have x1 : (-149 : Int) ≤ (if e = 0 then -149 else (e : Int) - 150) := by split <;> omega
    have x2 : (if e = 0 then -149 else (e : Int) - 150) ≤ 104 := by split <;> omega
    generalize hMe : (if e = 0 then part else part + 8388608) = M at *
    generalize hXe : (if e = 0 then (-149 : Int) else (e : Int) - 150) = X at *
    have HM : Hid ((if e = 0 then part else part + 8388608) = M) := hMe
    have HX : Hid ((if e = 0 then (-149 : Int) else (e : Int) - 150) = X) := hXe
    clear b1 hMe hXe
    go_upto_if 50 with fail
    go_cut [9, 10] (fun m x wx => ∃ (M' : Nat) (X' : Int), m = .int .u64 (M' : Int) ∧ x = .int .i64 X' ∧ wx = wc ∧ 1 ≤ M' ∧ M' < 16777216 ∧ -149 ≤ X' ∧ X' ≤ 104 ∧ (half = true → M' ≤ 2047 ∧ -24 ≤ X' ∧ X' ≤ 5) ∧ (half = false → M' = M ∧ X' = X))
    case first =>
      cases half
      · go_wp2_with fail
        go_meet
        exact ⟨M, X, rfl, rfl, rfl, m1, m2, x1, x2, by simp, by simp⟩
      · go_wp2_with fail
        refine (pick_any X 30 _ (by omega) (by omega) (by omega) (by omega)).mono ?_
        obtain ⟨p1, p2⟩ := pickI_spec X 30 (by omega)
        generalize pickI X 30 = k at *
        rintro e1 w2 ⟨rfl, rfl⟩
        by_cases hk : 5 < k - 24
        · have b5 : decide (5 < k - 24) = true := by simp; omega
          go_wp2_with fail
          go_meet
          exact ⟨1 + M % 2047, 5, by go_num, rfl, rfl, by omega, by omega, by omega, by omega, fun _ => ⟨by omega, by omega, by omega⟩, by simp⟩
        · have b5 : decide (5 < k - 24) = false := by simp; omega
          go_wp2_with fail
          go_meet
          exact ⟨1 + M % 2047, k - 24, by go_num, rfl, rfl, by omega, by omega, by omega, by omega, fun _ => ⟨by omega, by omega, by omega⟩, by simp⟩
    case rest =>
      obtain ⟨M', X', rfl, rfl, rfl, y1, y2, y3, y4, y5, y6⟩ := hcut
      go_wp2_with fail
      refine (scaled_any M' X' _ y1 y2 y3 y4).mono ?_
      rintro e1 w2 ⟨rfl, rfl⟩
      go_wp2_with fail
      obtain ⟨B, T, sm, eB, hB, hFT, hT1, hT2, hsm⟩ := float_facts2 (half := half) hs (by omega) hp h0 y1 y2 y3 y4 y5 (by rw [HM.out, HX.out]; exact y6)
      rw [eB]
      have HT1 : Hid (sm = true → ∃ k, T = 249 :: Sg.be k 2) := hT1
      have HT2 : Hid (sm = false → T = 250 :: Sg.be f 4) := by rw [Hfe.out]; exact hT2
      have Hsm : Hid (∀ o z : Nat, o % 2 = 1 → M' = o * 2 ^ z → (sm = true ↔ (o.log2 + 1 ≤ 11 ∧ -24 ≤ X' + z ∧ X' + z + (o.log2 + 1 : Nat) ≤ 16))) := hsm
      refine (enc_fl hFT (htab.below ((Below.refl _ _).alloc (Nat.le_refl _) _)) (Holds.one_at _ 8 B [] _ _ (by simp))).mono ?_
      clear eB hT1 hT2 hsm h0 m1 m2 x1 x2 HM HX Hfe y5 y6 hs he hp h255
      rintro e2 w3 ⟨rfl, hb3⟩
      have hbw : Below w2.heap.size w2 w3 := ((Below.refl _ _).alloc (Nat.le_refl _) _).trans (hb3.mono (by simp))
      clear hb3
      go_wp2_with fail
      refine (dec_fl hFT (htab.below hbw)).mono ?_
      rintro e3 w4 ⟨v, rfl, hb4, hh4⟩
      obtain ⟨b4, o4, c4, rfl, i0, i1, i2⟩ := hh4.open_one
      have hbx : Below w2.heap.size w2 w4 := hbw.trans (hb4.mono (by exact hbw.size))
      clear hFT hh4 hb4 hbw htab
      go_wp2_with fail
      go_loop [16, 17] (fun a b => ∃ o z : Nat, 1 ≤ o ∧ o ≤ M' ∧ M' = o * 2 ^ z ∧ z ≤ 24 ∧ a = .int .u64 (o : Int) ∧ b = .int .i64 (X' + z)) (fun a _ => (intOf a).toNat)
      case atStart => exact ⟨M', 0, y1, by omega, by simp, by omega, rfl, by simp⟩
      case round =>
        obtain ⟨o, z, q1, q2, q3, q4, rfl, rfl⟩ := hrel
        have Hq : Hid (M' = o * 2 ^ z) := q3
        clear q3
        by_cases ho : o % 2 = 0
        · have d1 : ((o : Int) % 2 == 0) = true := by simp; omega
          go_wp2_with fail
          go_round
          case rel =>
            have hz : M' = o / 2 * 2 ^ (z + 1) := by
              rw [Nat.pow_succ, Nat.mul_comm (2 ^ z) 2, ← Nat.mul_assoc, show o / 2 * 2 = o by omega]; exact Hq.out
            have hz2 : z + 1 ≤ 24 := by
              apply Classical.byContradiction; intro c
              have h1 : 2 ^ 24 ≤ 2 ^ (z + 1) := Nat.pow_le_pow_right (by omega) (by omega)
              have h2 : 1 * 2 ^ (z + 1) ≤ o / 2 * 2 ^ (z + 1) := Nat.mul_le_mul_right _ (by omega)
              have e : (2 : Nat) ^ 24 = 16777216 := by decide
              omega
            exact ⟨o / 2, z + 1, by omega, by omega, hz, hz2, by go_num, by go_num⟩
          case measure => simp [intOf]; omega
        · have d1 : ((o : Int) % 2 == 0) = false := by simp; omega
          have hl : o.log2 < 24 := (Nat.log2_lt (by omega)).2 (by simp; omega)
          go_wp2_with fail
          go_loop [18, 19] (fun a b => ∃ j : Nat, j ≤ o.log2 + 1 ∧ a = .int .i64 (j : Int) ∧ b = .int .u64 ((o / 2 ^ j : Nat) : Int)) (fun a _ => 30 - (intOf a).toNat)
          case atStart => exact ⟨0, by omega, rfl, by simp⟩
          case round =>
            obtain ⟨j, hj, rfl, rfl⟩ := hrel
            by_cases hjl : j ≤ o.log2
            · have t1 : 0 < o / 2 ^ j := by
                apply Nat.div_pos _ (Nat.two_pow_pos _)
                exact Nat.le_trans (Nat.pow_le_pow_right (by omega) hjl) (Nat.log2_self_le (by omega))
              have t2 : o / 2 ^ j / 2 = o / 2 ^ (j + 1) := by rw [Nat.div_div_eq_div_mul, Nat.pow_succ]
              have Ht2 : Hid (o / 2 ^ j / 2 = o / 2 ^ (j + 1)) := t2
              have t3 : o / 2 ^ j ≤ o := Nat.div_le_self _ _
              generalize o / 2 ^ j = t at *
              clear t2
              have t4 : decide ((0 : Int) < (t : Int)) = true := by simp; omega
              go_wp2_with fail
              go_round
              case rel => exact ⟨j + 1, by omega, by go_num, by rw [← Ht2.out]; go_num⟩
              case measure => simp [intOf]; omega
            · have ej : j = o.log2 + 1 := by omega
              subst ej
              have t1 : o / 2 ^ (o.log2 + 1) = 0 := Nat.div_eq_of_lt Nat.lt_log2_self
              rw [t1]
              have hs' := Hsm.out o z (by omega) Hq.out
              have hL : o.log2 + 1 ≤ 24 := by omega
              generalize o.log2 + 1 = L at *
              have Hs : Hid (sm = true ↔ L ≤ 11 ∧ -24 ≤ X' + (z : Int) ∧ X' + (z : Int) + (L : Int) ≤ 16) := hs'
              clear hs' t1 hj hjl hl ho Hq Hsm
              go_upto_region 32 with fail
              go_cut [20] (fun c wx => c = .bool sm ∧ wx = w4)
              case first =>
                by_cases c1 : L ≤ 11
                · have f1 : decide ((L : Int) ≤ 11) = true := by simp; omega
                  by_cases c2 : -24 ≤ X' + (z : Int)
                  · have f2 : decide (-24 ≤ X' + (z : Int)) = true := by simp; omega
                    by_cases c3 : X' + (z : Int) + (L : Int) ≤ 16
                    · have f3 : decide (X' + (z : Int) + (L : Int) ≤ 16) = true := by simp; omega
                      go_wp2_with fail
                      go_meet
                      exact ⟨by rw [Hs.out.2 ⟨c1, c2, c3⟩], rfl⟩
                    · have f3 : decide (X' + (z : Int) + (L : Int) ≤ 16) = false := by simp; omega
                      have es : sm = false := by
                        cases hc : sm
                        · rfl
                        · exact (c3 (Hs.out.1 hc).2.2).elim
                      go_wp2_with fail
                      go_meet
                      exact ⟨by rw [es], rfl⟩
                  · have f2 : decide (-24 ≤ X' + (z : Int)) = false := by simp; omega
                    have es : sm = false := by
                      cases hc : sm
                      · rfl
                      · exact (c2 (Hs.out.1 hc).2.1).elim
                    go_wp2_with fail
                    go_meet
                    exact ⟨by rw [es], rfl⟩
                · have f1 : decide ((L : Int) ≤ 11) = false := by simp; omega
                  have es : sm = false := by
                    cases hc : sm
                    · rfl
                    · exact (c1 (Hs.out.1 hc).1).elim
                  go_wp2_with fail
                  go_meet
                  exact ⟨by rw [es], rfl⟩
              case rest =>
                obtain ⟨rfl, rfl⟩ := hcut
                cases sm with
                | true =>
                  obtain ⟨k, hk⟩ := HT1.out rfl
                  obtain ⟨x, y, hxy⟩ : ∃ x y, Sg.be k 2 = [x, y] := ⟨_, _, rfl⟩
                  rw [hk, hxy]
                  clear HT1 HT2 hk hxy Hs
                  go_wp2_with fail
                  go_ret
                  exact ⟨rfl, hbx⟩
                | false =>
                  have hk := HT2.out rfl
                  obtain ⟨x1, x2, x3, x4, hx4⟩ : ∃ x1 x2 x3 x4, Sg.be f 4 = [x1, x2, x3, x4] := ⟨_, _, _, _, rfl⟩
                  have ht := tail_4 f
                  rw [hx4] at ht
                  have Ht : Hid (∀ (w : World), f < 18446744073709551616 → Calls Tryd.prog 11 #[.int .u64 f, .int .i64 4] w fun e w' => e = .returned (.string ⟨[x1, x2, x3, x4].toArray⟩) ∧ Below w.heap.size w w') := ht
                  rw [hk, hx4]
                  clear HT1 HT2 hk Hs ht hx4
                  have g0 : ∀ h, (((⟨#[250, x1, x2, x3, x4]⟩ : ByteArray)[0]'h).toNat : Int) = 250 := fun _ => rfl
                  go_upto_region 35 with fail
                  go_region_with (first | (go_at_call 11; refine (Ht.out _ (by omega)).mono ?_; rintro e5 w5 ⟨rfl, hb5⟩))
                  all_goals (go_wp2_with fail)
                  all_goals go_ret
                  all_goals refine ⟨congrArg (fun b => Ending.returned (Value.bool b)) (?_ : _ = true), ?_⟩
                  · rw [beq_iff_eq]
                    simp [ByteArray.toList_eq, ByteArray.data_extract]
                  · exact hbx.drew.trans (hb5.mono (by exact hbx.size))
end Go.Proofs.YtfcnbdhpdpcmgaaDoor
