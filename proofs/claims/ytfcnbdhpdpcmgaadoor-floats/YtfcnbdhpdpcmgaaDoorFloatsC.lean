import Derived.Test.YtfcnbdhpdpcmgaaDoorYu
import Derived.Test.YtfcnbdhpdpcmgaaDoorFloatsB
namespace Go.Proofs.YtfcnbdhpdpcmgaaDoor
open Go.RowKit
/-- a number and the text of its shortest form, of 16 or of 32 bits -/
def FlT (B : Nat) (T : Sg.Bytes) : Prop := ∃ k, (Fl B 25 k ∧ T = 249 :: Sg.be k 2) ∨ (Fl B 26 k ∧ T = 250 :: Sg.be k 4)
theorem Fl.k25 {n k : Nat} (h : Fl n 25 k) : k < 65536 := by
  rcases h.is with ⟨_, hp⟩ | ⟨h, _⟩
  · obtain ⟨_, s, x, m, hs, hx, hm, rfl, _⟩ := Sg.widened_packed_16 n k (by have := h.lt; omega) hp
    omega
  · omega
theorem Fl.k26 {n k : Nat} (h : Fl n 26 k) : k < 4294967296 := by
  rcases h.is with ⟨h, _⟩ | ⟨_, _, hp⟩
  · omega
  · obtain ⟨_, s, x, m, hs, hx, hm, rfl, _⟩ := Sg.widened_packed_32 n k (by have := h.lt; omega) hp
    omega
theorem be2 (k : Nat) : Sg.be k 2 = [UInt8.ofNat (k / 256 % 256), UInt8.ofNat (k % 256)] := rfl
theorem be4 (k : Nat) : Sg.be k 4 = [UInt8.ofNat (k / 256 / 256 / 256 % 256), UInt8.ofNat (k / 256 / 256 % 256), UInt8.ofNat (k / 256 % 256), UInt8.ofNat (k % 256)] := rfl
theorem Holds.open1 {w : World} {v : Value} {x : Sg.Item} (h : Holds w v [x]) : ∃ b off cap, v = .slice (some ⟨b, off, none⟩) 1 cap ∧ 1 ≤ cap ∧ w.cell? ⟨b, off, none⟩ = some (.int .i64 x.kind) ∧ w.cell? ⟨b, off + 1, none⟩ = some (.int .u64 x.n) ∧ w.cell? ⟨b, off + 2, none⟩ = some (str x.s) := by
  rcases h with ⟨_, _, _, h⟩ | ⟨b, off, cap, hv, hc, hi⟩
  · cases h
  · obtain ⟨c0, c1, c2⟩ := hi 0 (by simp)
    exact ⟨b, off, cap, hv, hc, by simpa using c0, by simpa using c1, by simpa using c2⟩
theorem enc_fl {B : Nat} {T : Sg.Bytes} (hf : FlT B T) {w : World} (h : Tabs w) {v : Value} (hv : Holds w v [⟨8, B, []⟩]) :
    Calls Tryd.prog 7 #[v] w fun e w' => e = .returned (.tuple #[str T, .int .i64 0]) ∧ Below w.heap.size w w' := by
  obtain ⟨b, off, cap, rfl, hc, i0, i1, i2⟩ := hv.open1
  obtain ⟨k, ⟨hk, rfl⟩ | ⟨hk, rfl⟩⟩ := hf
  · refine (y_Enc25 b off cap B k w h hk hk.k25 hc i0 i1 i2).mono ?_
    rintro e w' ⟨rfl, hb⟩
    refine ⟨?_, hb⟩
    have e1 : k / 256 % 256 = k / 256 := Nat.mod_eq_of_lt (by have := hk.k25; omega)
    have : strOfNums [(249 : Int), ((k / 256 : Nat) : Int), ((k % 256 : Nat) : Int)] = ⟨(249 :: Sg.be k 2).toArray⟩ := by
      rw [be2, e1]; rfl
    rw [this]
  · refine (y_Enc26 b off cap B k w h hk hk.k26 hc i0 i1 i2).mono ?_
    rintro e w' ⟨rfl, hb⟩
    refine ⟨?_, hb⟩
    have e1 : k / 256 / 256 / 256 % 256 = k / 16777216 := by have := hk.k26; omega
    have e2 : k / 256 / 256 % 256 = k / 65536 % 256 := by omega
    have : strOfNums [(250 : Int), ((k / 16777216 : Nat) : Int), ((k / 65536 % 256 : Nat) : Int), ((k / 256 % 256 : Nat) : Int), ((k % 256 : Nat) : Int)] = ⟨(250 :: Sg.be k 4).toArray⟩ := by
      rw [be4, e1, e2]; rfl
    rw [this]
theorem Holds.of1 {w : World} {g cap B : Nat} (hc : 1 ≤ cap) (c0 : w.cell? ⟨g, 0, none⟩ = some (.int .i64 8)) (c1 : w.cell? ⟨g, 1, none⟩ = some (.int .u64 B)) (c2 : w.cell? ⟨g, 2, none⟩ = some (str [])) : Holds w (.slice (some ⟨g, 0, none⟩) 1 cap) [⟨8, B, []⟩] := by
  refine .inr ⟨g, 0, cap, rfl, hc, ?_⟩
  intro i hi
  have e : i = 0 := by simpa using hi
  subst e
  exact ⟨c0, c1, c2⟩
theorem dec_fl {B : Nat} {T : Sg.Bytes} (hf : FlT B T) {w : World} (h : Tabs w) :
    Calls Tryd.prog 8 #[str T] w fun e w' => ∃ v, e = .returned (.tuple #[v, .int .i64 0]) ∧ Below w.heap.size w w' ∧ Holds w' v [⟨8, B, []⟩] := by
  obtain ⟨k, ⟨hk, rfl⟩ | ⟨hk, rfl⟩⟩ := hf
  · have hn : Sg.num (Sg.be k 2) = k := by rw [Sg.num_be, Nat.mod_eq_of_lt (by have := hk.k25; omega)]
    rw [be2] at hn ⊢
    have hk2 : Fl B 25 (Sg.num [UInt8.ofNat (k / 256 % 256), UInt8.ofNat (k % 256)]) := by rw [hn]; exact hk
    refine (y_Dec25 B _ _ w h hk2).mono ?_
    rintro e w' ⟨hb, g, cap, rfl, hc, c0, c1, c2⟩
    exact ⟨_, rfl, hb, Holds.of1 hc c0 c1 c2⟩
  · have hn : Sg.num (Sg.be k 4) = k := by rw [Sg.num_be, Nat.mod_eq_of_lt (by have := hk.k26; omega)]
    rw [be4] at hn ⊢
    have hk2 : Fl B 26 (Sg.num [UInt8.ofNat (k / 256 / 256 / 256 % 256), UInt8.ofNat (k / 256 / 256 % 256), UInt8.ofNat (k / 256 % 256), UInt8.ofNat (k % 256)]) := by rw [hn]; exact hk
    refine (y_Dec26 B _ _ _ _ w h hk2).mono ?_
    rintro e w' ⟨hb, g, cap, rfl, hc, c0, c1, c2⟩
    exact ⟨_, rfl, hb, Holds.of1 hc c0 c1 c2⟩
/-- what the law asks, and that it is such a number -/
theorem float_flT {s e part M : Nat} {X : Int} {half : Bool} (hs : s < 2) (he : e < 255) (hp : part < 8388608) (h0 : ¬ (e = 0 ∧ part = 0)) (y1 : 1 ≤ M) (y2 : M < 16777216) (y3 : -149 ≤ X) (y4 : X ≤ 104)
    (y5 : half = true → M ≤ 2047 ∧ -24 ≤ X ∧ X ≤ 5) (y6 : half = false → M = (if e = 0 then part else part + 8388608) ∧ X = (if e = 0 then -149 else (e : Int) - 150)) :
    FlT (s * 2 ^ 63 + Sg.scaledN M X) (Sg.floatedB (s * 2 ^ 63 + Sg.scaledN M X)) := by
  obtain ⟨g1, g2, g3⟩ := Sg.scaled_sound (x := X) hs y1 y2 y3 y4
  obtain ⟨E, q, hE, hE1, hE2, hq, hqm, hsc⟩ := Sg.scaled_parts (x := X) y1 y2 y3 y4
  have hd : (s * 2 ^ 63 + Sg.scaledN M X) / 4503599627370496 % 2048 = E := by
    rw [hsc, ← Nat.add_assoc]; exact Sg.d2 s E q hs (by omega) hq
  cases hp16 : Sg.packed 5 10 (s * 2 ^ 63 + Sg.scaledN M X) with
  | some k =>
    refine ⟨k, .inl ⟨⟨by simpa using g1, by rw [hd]; exact hE1, by rw [hd]; exact hE2, .inl ⟨rfl, hp16⟩⟩, ?_⟩⟩
    unfold Sg.floatedB
    rw [if_neg g3, hp16]
  | none =>
    cases half with
    | false =>
      obtain ⟨e1, e2⟩ := y6 rfl
      have e3 := Sg.scaled_32 hs he hp h0
      rw [← e1, ← e2] at e3
      have h32 : Sg.packed 8 23 (s * 2 ^ 63 + Sg.scaledN M X) = some (s * 2147483648 + e * 8388608 + part) := by
        rw [e3]; exact Sg.packed_widened_32 s e part hs (by omega) hp (by omega)
      refine ⟨s * 2147483648 + e * 8388608 + part, .inr ⟨⟨by simpa using g1, by rw [hd]; exact hE1, by rw [hd]; exact hE2, .inr ⟨rfl, hp16, h32⟩⟩, ?_⟩⟩
      unfold Sg.floatedB
      rw [if_neg g3, hp16, h32]
    | true =>
      exfalso
      obtain ⟨q1, q2, q3⟩ := y5 rfl
      obtain ⟨o, z, ho, hz⟩ := Sg.odd_part M y1
      have hb := (Sg.scaled_16 (x := X) hs y1 y2 y3 y4 ho hz).2
      have hl : M.log2 = o.log2 + z := by rw [hz]; exact Sg.log2_odd (by omega)
      have hM : M.log2 < 11 := (Nat.log2_lt (by omega)).2 (by omega)
      have := hb ⟨by omega, by omega, by omega⟩
      rw [hp16] at this
      cases this
theorem float_facts2 {s e part M : Nat} {X : Int} {half : Bool} (hs : s < 2) (he : e < 255) (hp : part < 8388608) (h0 : ¬ (e = 0 ∧ part = 0)) (y1 : 1 ≤ M) (y2 : M < 16777216) (y3 : -149 ≤ X) (y4 : X ≤ 104)
    (y5 : half = true → M ≤ 2047 ∧ -24 ≤ X ∧ X ≤ 5) (y6 : half = false → M = (if e = 0 then part else part + 8388608) ∧ X = (if e = 0 then -149 else (e : Int) - 150)) :
    ∃ (B : Nat) (T : Sg.Bytes) (sm : Bool), IntKind.u64.wrap (top63 s + (Sg.scaledN M X : Nat)) = (B : Int) ∧ B < 18446744073709551616 ∧ FlT B T ∧
      (sm = true → ∃ k, T = 249 :: Sg.be k 2) ∧ (sm = false → T = 250 :: Sg.be (s * 2147483648 + e * 8388608 + part) 4) ∧
      ∀ o z : Nat, o % 2 = 1 → M = o * 2 ^ z → (sm = true ↔ (o.log2 + 1 ≤ 11 ∧ -24 ≤ X + z ∧ X + z + (o.log2 + 1 : Nat) ≤ 16)) := by
  have hF := float_flT (half := half) hs he hp h0 y1 y2 y3 y4 y5 y6
  obtain ⟨g1, g2, g3⟩ := Sg.scaled_sound (x := X) hs y1 y2 y3 y4
  obtain ⟨B, T, sm, eB, hB, hN, hT, hT1, hT2, hsm⟩ := float_facts (half := half) hs he hp h0 y1 y2 y3 y4 y5 y6
  have eB2 : B = s * 2 ^ 63 + Sg.scaledN M X := by
    rw [top63_nat s hs, ← Int.natCast_add, wrap_u64_id _ g1] at eB
    exact (Int.ofNat_inj.1 eB).symm
  refine ⟨B, T, sm, eB, hB, ?_, hT1, hT2, hsm⟩
  rw [← hT, eB2]; exact hF
end Go.Proofs.YtfcnbdhpdpcmgaaDoor
