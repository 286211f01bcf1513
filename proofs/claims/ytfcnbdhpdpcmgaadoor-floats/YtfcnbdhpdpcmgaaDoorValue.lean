/- Values: how items are written, read, scanned. No Go, no kit. -/
import Derived.Attr
namespace Sg

abbrev Bytes := List UInt8

structure Item where
  kind : Int
  n : Nat
  s : Bytes
  deriving DecidableEq, Inhabited

/-- a number in so many bytes, the highest first -/
def be : Nat → Nat → Bytes
  | _, 0 => []
  | n, k + 1 => be (n / 256) k ++ [UInt8.ofNat (n % 256)]

/-- the number that bytes tell, the highest first -/
def num (l : Bytes) : Nat := l.foldl (fun a b => 256 * a + b.toNat) 0

/-- how many bytes a number takes behind its head: the sign in the head, and the size -/
def sizeOf' (n : Nat) : Nat × Nat :=
  if n < 256 then (24, 1) else if n < 65536 then (25, 2) else if n < 4294967296 then (26, 4) else (27, 8)

def head (k : Nat) (n : Nat) : Bytes :=
  if n < 24 then [UInt8.ofNat (32 * k + n)] else UInt8.ofNat (32 * k + (sizeOf' n).1) :: be n (sizeOf' n).2

/-- dropping what is done -/
def norm : List Nat → List Nat
  | 0 :: st => norm st
  | st => st

structure Codec where
  /-- a float's bytes (with the head) -/
  floated : Nat → Bytes
  /-- the 64 bits of a float told in 2, 4 or 8 bytes -/
  widen : Nat → Nat → Nat
  utf8 : Bytes → Bool
  none : Nat → Bool
  nan : Nat

variable (C : Codec)

def written (x : Item) : Bytes :=
  if x.kind = 2 ∨ x.kind = 3 then head x.kind.toNat x.s.length ++ x.s
  else if x.kind = 7 then head 7 x.n
  else if x.kind = 8 then C.floated x.n
  else head x.kind.toNat x.n

def all (l : List Item) : Bytes := l.flatMap (written C)

def inside (x : Item) : Nat :=
  if x.kind = 6 then 1 else if x.kind = 4 then x.n else if x.kind = 5 then 2 * x.n else 0

def sound (x : Item) (depth : Nat) : Nat :=
  if x.kind < 0 ∨ x.kind > 8 ∨ ((x.kind = 2 ∨ x.kind = 3) ∧ x.n ≠ 0) ∨ (¬ (x.kind = 2 ∨ x.kind = 3) ∧ x.s ≠ []) then 1
  else if x.kind = 7 ∧ ((23 < x.n ∧ x.n < 32) ∨ 255 < x.n) then 5
  else if x.kind = 8 ∧ C.none x.n = true ∧ x.n ≠ C.nan then 8
  else if x.kind = 3 ∧ C.utf8 x.s = false then 9
  else if 64 < depth then 10
  else 0

def scanI : List Item → List Nat → Nat × List Item
  | [], st => match norm st with
    | [] => (0, [])
    | _ => (3, [])
  | x :: l, st => match norm st with
    | [] => (0, x :: l)
    | n :: st' => if sound C x (st'.length + 1) = 0 then scanI l (inside x :: (n - 1) :: st') else (sound C x (st'.length + 1), x :: l)

/-- one item: the error, or the item and what is behind it -/
def readNum (kind info : Nat) (s : Bytes) : Except Nat (Nat × Bytes) :=
  if info < 24 then .ok (info, s)
  else
    let size := 2 ^ (info - 24)
    if s.length < size then .error 3
    else
      let n := num (s.take size)
      if kind < 7 ∧ (n < 24 ∨ (1 < size ∧ n < 256 ^ (size / 2))) then .error 7 else .ok (n, s.drop size)

def special (info n : Nat) : Except Nat Item :=
  if info < 25 then (if info = 24 ∧ n < 32 then .error 5 else .ok ⟨7, n, []⟩)
  else
    let b := C.widen info n
    if (C.none b = true ∧ b ≠ C.nan) ∨ (C.floated b).length ≠ 1 + 2 ^ (info - 24) then .error 8 else .ok ⟨8, b, []⟩

def readItem : Bytes → Except Nat (Item × Bytes)
  | [] => .error 3
  | b :: s =>
    let kind := b.toNat / 32
    let info := b.toNat % 32
    if 27 < info then (if info = 31 then .error 6 else .error 5)
    else match readNum kind info s with
      | .error e => .error e
      | .ok (n, r) =>
        if kind = 7 then (match special C info n with | .error e => .error e | .ok x => .ok (x, r))
        else if kind = 2 ∨ kind = 3 then
          (if r.length < n then .error 3
           else if kind = 3 ∧ C.utf8 (r.take n) = false then .error 9
           else .ok (⟨kind, 0, r.take n⟩, r.drop n))
        else .ok (⟨kind, n, []⟩, r)

def scanB : Nat → Bytes → List Nat → Nat × List Item × Bytes
  | k, s, st => match norm st with
    | [] => (0, [], s)
    | n :: st' =>
      if s = [] then (3, [], s)
      else match k with
        | 0 => (2, [], s)
        | k + 1 =>
          if 64 < st'.length + 1 then (10, [], s)
          else match readItem C s with
            | .error e => (e, [], s)
            | .ok (x, r) =>
              let q := scanB k r (inside x :: (n - 1) :: st')
              (q.1, x :: q.2.1, q.2.2)

variable (whole : List Item → Nat)

def enc (l : List Item) : Bytes × Nat :=
  if 600 < l.length then ([], 2)
  else
    let q := scanI C l [1]
    if q.1 ≠ 0 then ([], q.1)
    else if q.2 ≠ [] then ([], 4)
    else if whole l ≠ 0 then ([], whole l)
    else if 4096 < (all C l).length then ([], 2)
    else (all C l, 0)

def dec (s : Bytes) : List Item × Nat :=
  if 4096 < s.length then ([], 2)
  else
    let q := scanB C 600 s [1]
    if q.1 ≠ 0 then ([], q.1)
    else if q.2.2 ≠ [] then ([], 4)
    else if whole q.2.1 ≠ 0 then ([], whole q.2.1)
    else (q.2.1, 0)


theorem num_nil : num [] = 0 := rfl
theorem num_snoc (l : Bytes) (b : UInt8) : num (l ++ [b]) = 256 * num l + b.toNat := by simp [num]
theorem be_length : ∀ (k n : Nat), (be n k).length = k
  | 0, _ => rfl
  | k + 1, n => by simp [be, be_length k]
theorem num_be : ∀ (k n : Nat), num (be n k) = n % 256 ^ k
  | 0, n => by simp [be, num, Nat.mod_one]
  | k + 1, n => by
    rw [be, num_snoc, num_be k]
    have h : (UInt8.ofNat (n % 256)).toNat = n % 256 := by simp
    rw [h, Nat.pow_succ, Nat.mul_comm (256 ^ k) 256, Nat.mod_mul]
    omega
theorem snoc_ind {p : Bytes → Prop} (h0 : p []) (h1 : ∀ l b, p l → p (l ++ [b])) : ∀ l, p l := by
  intro l
  have : ∀ n, ∀ l : Bytes, l.length = n → p l := by
    intro n
    induction n with
    | zero => intro l h; rw [List.length_eq_zero_iff.1 h]; exact h0
    | succ n ih =>
      intro l h
      have hne : l ≠ [] := by intro e; simp [e] at h
      rw [← List.dropLast_concat_getLast hne]
      exact h1 _ _ (ih _ (by simp [h]))
  exact this _ l rfl
theorem be_num (l : Bytes) : be (num l) l.length = l := by
  refine snoc_ind (p := fun l => be (num l) l.length = l) rfl ?_ l
  intro l b ih
  have hb := b.toNat_lt
  have e1 : (256 * num l + b.toNat) / 256 = num l := by omega
  have e2 : (256 * num l + b.toNat) % 256 = b.toNat := by omega
  rw [num_snoc, List.length_append, List.length_singleton, be, e1, e2, ih]
  simp
theorem num_lt (l : Bytes) : num l < 256 ^ l.length := by
  refine snoc_ind (p := fun l => num l < 256 ^ l.length) (by simp [num]) ?_ l
  intro l b ih
  have hb := b.toNat_lt
  rw [num_snoc, List.length_append, List.length_singleton, Nat.pow_succ]
  omega

theorem byte_toNat (n : Nat) (h : n < 256) : (UInt8.ofNat n).toNat = n := by simp; omega
theorem readNum_small {k info : Nat} (s : Bytes) (h : info < 24) : readNum k info s = .ok (info, s) := by simp [readNum, h]
theorem readNum_be {k i n : Nat} (r : Bytes) (hi : i ≤ 3) (hn : n < 256 ^ 2 ^ i) (h24 : k < 7 → 24 ≤ n) (hs : k < 7 → 1 ≤ i → 256 ^ (2 ^ i / 2) ≤ n) :
    readNum k (24 + i) (be n (2 ^ i) ++ r) = .ok (n, r) := by
  have e : 24 + i - 24 = i := by omega
  unfold readNum
  rw [if_neg (by omega)]
  simp only [e]
  rw [if_neg (by simp [be_length])]
  have ht : (be n (2 ^ i) ++ r).take (2 ^ i) = be n (2 ^ i) := by
    rw [List.take_append_of_le_length (by simp [be_length]), List.take_of_length_le (by simp [be_length])]
  have hd : (be n (2 ^ i) ++ r).drop (2 ^ i) = r := by
    conv => lhs; rw [show 2 ^ i = (be n (2 ^ i)).length by rw [be_length]]
    rw [be_length]
    have := List.drop_left (l₁ := be n (2 ^ i)) (l₂ := r)
    rwa [be_length] at this
  rw [ht, hd, num_be, Nat.mod_eq_of_lt hn]
  rw [if_neg]
  rintro ⟨hk, h | ⟨h1, h2⟩⟩
  · have := h24 hk; omega
  · have hi1 : 1 ≤ i := by
      rcases Nat.eq_zero_or_pos i with e | e
      · subst e; simp at h1
      · exact e
    have := hs hk hi1
    omega
/-- which size a number takes -/
theorem size_cases (n : Nat) (hn : n < 2 ^ 64) (_h24 : 24 ≤ n) : ∃ i, i ≤ 3 ∧ sizeOf' n = (24 + i, 2 ^ i) ∧ n < 256 ^ 2 ^ i ∧ (1 ≤ i → 256 ^ (2 ^ i / 2) ≤ n) := by
  unfold sizeOf'
  by_cases h1 : n < 256
  · exact ⟨0, by omega, by simp [h1], by simpa using h1, by omega⟩
  by_cases h2 : n < 65536
  · exact ⟨1, by omega, by simp [h1, h2], by simpa using h2, fun _ => by simpa using h1⟩
  by_cases h3 : n < 4294967296
  · exact ⟨2, by omega, by simp [h1, h2, h3], by simpa using h3, fun _ => by simpa using h2⟩
  · exact ⟨3, by omega, by simp [h1, h2, h3], by simpa using hn, fun _ => by simpa using h3⟩
theorem head_read {k n : Nat} (r : Bytes) (hk : k ≤ 7) (hn : n < 2 ^ 64) : ∃ b s info, head k n ++ r = b :: s ∧ b.toNat / 32 = k ∧ b.toNat % 32 = info ∧ info ≤ 27 ∧ readNum k info s = .ok (n, r) ∧
    (n < 24 → info = n) ∧ (24 ≤ n → n < 256 → info = 24) ∧ (256 ≤ n → 25 ≤ info) := by
  by_cases h : n < 24
  · refine ⟨UInt8.ofNat (32 * k + n), r, n, by simp [head, h], ?_, ?_, by omega, readNum_small _ h, fun _ => rfl, by omega, by omega⟩
    · rw [byte_toNat _ (by omega)]; omega
    · rw [byte_toNat _ (by omega)]; omega
  · obtain ⟨i, hi, e, h1, h2⟩ := size_cases n hn (by omega)
    refine ⟨UInt8.ofNat (32 * k + (24 + i)), be n (2 ^ i) ++ r, 24 + i, by simp [head, h, e], ?_, ?_, by omega, readNum_be r hi h1 (by omega) (fun _ => h2), by omega, ?_, ?_⟩
    · rw [byte_toNat _ (by omega)]; omega
    · rw [byte_toNat _ (by omega)]; omega
    · intro _ h4
      simp [sizeOf', h4] at e; omega
    · intro h4
      rcases Nat.eq_zero_or_pos i with e0 | e0
      · subst e0; simp at h1; omega
      · omega

structure Codec.Ok : Prop where
  shape : ∀ b, b < 2 ^ 64 → ¬ (C.none b = true ∧ b ≠ C.nan) → ∃ info h, 25 ≤ info ∧ info ≤ 27 ∧ h < 256 ^ 2 ^ (info - 24) ∧ C.floated b = UInt8.ofNat (224 + info) :: be h (2 ^ (info - 24)) ∧ C.widen info h = b
  back : ∀ info n, 25 ≤ info → info ≤ 27 → n < 256 ^ 2 ^ (info - 24) → ¬ (C.none (C.widen info n) = true ∧ C.widen info n ≠ C.nan) →
    (C.floated (C.widen info n)).length = 1 + 2 ^ (info - 24) → C.floated (C.widen info n) = UInt8.ofNat (224 + info) :: be n (2 ^ (info - 24))
  small : ∀ info n, 25 ≤ info → info ≤ 27 → n < 256 ^ 2 ^ (info - 24) → C.widen info n < 2 ^ 64

def Fits (x : Item) : Prop := x.n < 2 ^ 64 ∧ x.s.length < 2 ^ 64

variable {C}
theorem sound_open {x : Item} {d : Nat} (h : sound C x d = 0) : 0 ≤ x.kind ∧ x.kind ≤ 8 ∧ ((x.kind = 2 ∨ x.kind = 3) → x.n = 0) ∧ (¬ (x.kind = 2 ∨ x.kind = 3) → x.s = []) ∧
    (x.kind = 7 → x.n < 24 ∨ (32 ≤ x.n ∧ x.n < 256)) ∧ (x.kind = 8 → ¬ (C.none x.n = true ∧ x.n ≠ C.nan)) ∧ (x.kind = 3 → C.utf8 x.s = true) ∧ d ≤ 64 := by
  unfold sound at h
  by_cases h1 : x.kind < 0 ∨ x.kind > 8 ∨ ((x.kind = 2 ∨ x.kind = 3) ∧ x.n ≠ 0) ∨ (¬ (x.kind = 2 ∨ x.kind = 3) ∧ x.s ≠ [])
  · rw [if_pos h1] at h; omega
  rw [if_neg h1] at h
  by_cases h2 : x.kind = 7 ∧ ((23 < x.n ∧ x.n < 32) ∨ 255 < x.n)
  · rw [if_pos h2] at h; omega
  rw [if_neg h2] at h
  by_cases h3 : x.kind = 8 ∧ C.none x.n = true ∧ x.n ≠ C.nan
  · rw [if_pos h3] at h; omega
  rw [if_neg h3] at h
  by_cases h4 : x.kind = 3 ∧ C.utf8 x.s = false
  · rw [if_pos h4] at h; omega
  rw [if_neg h4] at h
  by_cases h5 : 64 < d
  · rw [if_pos h5] at h; omega
  refine ⟨by omega, by omega, fun k => ?_, fun k => ?_, fun k => by omega, fun k e => h3 ⟨k, e⟩, fun k => ?_, by omega⟩
  · apply Classical.byContradiction; intro e; exact h1 (.inr (.inr (.inl ⟨k, e⟩)))
  · apply Classical.byContradiction; intro e; exact h1 (.inr (.inr (.inr ⟨k, e⟩)))
  · cases e : C.utf8 x.s
    · exact (h4 ⟨k, e⟩).elim
    · rfl
theorem sound_mk {x : Item} {d : Nat} (h0 : 0 ≤ x.kind) (h8 : x.kind ≤ 8) (hn : (x.kind = 2 ∨ x.kind = 3) → x.n = 0) (hs : ¬ (x.kind = 2 ∨ x.kind = 3) → x.s = [])
    (h7 : x.kind = 7 → x.n < 24 ∨ (32 ≤ x.n ∧ x.n < 256)) (hf : x.kind = 8 → ¬ (C.none x.n = true ∧ x.n ≠ C.nan)) (hu : x.kind = 3 → C.utf8 x.s = true) (hd : d ≤ 64) : sound C x d = 0 := by
  unfold sound
  rw [if_neg, if_neg, if_neg, if_neg, if_neg]
  · omega
  · rintro ⟨k, e⟩; rw [hu k] at e; cases e
  · rintro ⟨k, e⟩; exact hf k e
  · rintro ⟨k, e⟩; have := h7 k; omega
  · rintro (k | k | ⟨k, e⟩ | ⟨k, e⟩)
    · omega
    · omega
    · exact e (hn k)
    · exact e (hs k)

/-- WHAT IS WRITTEN IS READ. -/
theorem read_written (ok : C.Ok) {x : Item} {d : Nat} (h : sound C x d = 0) (hf : Fits x) (r : Bytes) : readItem C (written C x ++ r) = .ok (x, r) := by
  obtain ⟨h0, h8, hn, hs, h7, hfl, hu, _⟩ := sound_open h
  obtain ⟨k, hk⟩ := Int.eq_ofNat_of_zero_le h0
  obtain ⟨xk, xn, xs⟩ := x
  simp only at *
  subst hk
  have hk8 : k ≤ 8 := by omega
  by_cases k23 : k = 2 ∨ k = 3
  · have hn0 : xn = 0 := hn (by omega)
    subst hn0
    obtain ⟨b, s, info, e, e1, e2, e3, e4, _⟩ := head_read (k := k) (n := xs.length) (xs ++ r) (by omega) hf.2
    have ew : written C ⟨k, 0, xs⟩ = head k xs.length ++ xs := by
      unfold written; rw [if_pos (by simp only; omega)]; simp
    rw [ew, List.append_assoc, e]
    simp only [readItem, e1, e2]
    rw [if_neg (by omega), e4]
    simp only
    rw [if_neg (by omega), if_pos k23, if_neg (by simp), if_neg]
    · simp
    · rintro ⟨k3, e⟩
      simp at e
      rw [hu (by omega)] at e; cases e
  · have hs0 : xs = [] := hs (by omega)
    subst hs0
    by_cases k7 : k = 7
    · subst k7
      have ew : written C ⟨(7 : Nat), xn, []⟩ = head 7 xn := by simp [written]
      obtain ⟨b, s, info, e, e1, e2, e3, e4, e5, e6, e7⟩ := head_read (k := 7) (n := xn) r (by omega) hf.1
      rw [ew, e]
      simp only [readItem, e1, e2]
      rw [if_neg (by omega), e4]
      have h7' := h7 (by rfl)
      have sp : special C info xn = .ok ⟨7, xn, []⟩ := by
        unfold special
        rw [if_pos, if_neg]
        · rintro ⟨a, b'⟩
          have : xn < 24 := by omega
          have := e5 this
          omega
        · rcases h7' with a | a
          · have := e5 a; omega
          · have := e6 (by omega) a.2; omega
      simp [sp]
    · by_cases k8 : k = 8
      · subst k8
        have ew : written C ⟨(8 : Nat), xn, []⟩ = C.floated xn := by simp [written]
        obtain ⟨info, hh, i1, i2, i3, i4, i5⟩ := ok.shape xn hf.1 (hfl (by rfl))
        have hb : (UInt8.ofNat (224 + info)).toNat = 224 + info := byte_toNat _ (by omega)
        have e1 : (224 + info) / 32 = 7 := by omega
        have e2 : (224 + info) % 32 = info := by omega
        have hr := readNum_be (k := 7) (i := info - 24) (n := hh) r (by omega) i3 (by omega) (by omega)
        rw [show 24 + (info - 24) = info by omega] at hr
        rw [ew, i4, List.cons_append]
        simp only [readItem, hb, e1, e2]
        rw [if_neg (by omega), hr]
        have sp : special C info hh = .ok ⟨8, xn, []⟩ := by
          unfold special
          rw [if_neg (by omega)]
          simp only [i5]
          rw [if_neg]
          rintro (a | a)
          · exact hfl (by rfl) a
          · apply a; rw [i4]; simp [be_length]; omega
        simp [sp]
      · have ew : written C ⟨k, xn, []⟩ = head k xn := by
          unfold written
          rw [if_neg (by simp only; omega), if_neg (by simp only; omega), if_neg (by simp only; omega)]
          simp
        obtain ⟨b, s, info, e, e1, e2, e3, e4, _⟩ := head_read (k := k) (n := xn) r (by omega) hf.1
        rw [ew, e]
        simp only [readItem, e1, e2]
        rw [if_neg (by omega), e4]
        simp only
        rw [if_neg k7, if_neg k23]

theorem readNum_open {k info n : Nat} {t r : Bytes} (h : readNum k info t = .ok (n, r)) (hi : info ≤ 27) :
    (info < 24 ∧ n = info ∧ r = t) ∨ ∃ i, i ≤ 3 ∧ info = 24 + i ∧ t = be n (2 ^ i) ++ r ∧ n < 256 ^ 2 ^ i ∧ (k < 7 → 24 ≤ n ∧ (1 ≤ i → 256 ^ (2 ^ i / 2) ≤ n)) := by
  unfold readNum at h
  by_cases h1 : info < 24
  · rw [if_pos h1] at h
    simp only [Except.ok.injEq, Prod.mk.injEq] at h
    exact .inl ⟨h1, h.1.symm, h.2.symm⟩
  · rw [if_neg h1] at h
    right
    obtain ⟨i, e⟩ : ∃ i, info = 24 + i := ⟨info - 24, by omega⟩
    subst e
    have e : 24 + i - 24 = i := by omega
    simp only [e] at h
    by_cases h2 : t.length < 2 ^ i
    · rw [if_pos h2] at h; cases h
    rw [if_neg h2] at h
    split at h
    · cases h
    · rename_i h3
      simp only [Except.ok.injEq, Prod.mk.injEq] at h
      obtain ⟨rfl, rfl⟩ := h
      have hl : (t.take (2 ^ i)).length = 2 ^ i := by simp; omega
      have hb := be_num (t.take (2 ^ i))
      rw [hl] at hb
      have hlt := num_lt (t.take (2 ^ i))
      rw [hl] at hlt
      refine ⟨i, by omega, rfl, by rw [hb, List.take_append_drop], hlt, fun hk => ?_⟩
      refine ⟨?_, fun h1i => ?_⟩
      · apply Classical.byContradiction; intro c; exact h3 ⟨hk, .inl (by omega)⟩
      · apply Classical.byContradiction; intro c
        refine h3 ⟨hk, .inr ⟨?_, by omega⟩⟩
        exact Nat.one_lt_two_pow (by omega)
theorem sizeOf'_eq {n i : Nat} (hi : i ≤ 3) (hn : n < 256 ^ 2 ^ i) (h : 1 ≤ i → 256 ^ (2 ^ i / 2) ≤ n) : sizeOf' n = (24 + i, 2 ^ i) := by
  unfold sizeOf'
  rcases (by omega : i = 0 ∨ i = 1 ∨ i = 2 ∨ i = 3) with e | e | e | e <;> subst e <;> simp at hn h
  · simp [hn]
  · rw [if_neg (by omega), if_pos hn]
  · rw [if_neg (by omega), if_neg (by omega), if_pos hn]
  · rw [if_neg (by omega), if_neg (by omega), if_neg (by omega)]
theorem byte_split {b : UInt8} {k info : Nat} (h1 : b.toNat / 32 = k) (h2 : b.toNat % 32 = info) : UInt8.ofNat (32 * k + info) = b := by
  have : 32 * k + info = b.toNat := by omega
  rw [this]; simp
theorem head_of_read {b : UInt8} {k info n : Nat} {t r : Bytes} (h1 : b.toNat / 32 = k) (h2 : b.toNat % 32 = info) (hi : info ≤ 27) (hk : k < 7)
    (h : readNum k info t = .ok (n, r)) : head k n ++ r = b :: t ∧ n < 2 ^ 64 := by
  rcases readNum_open h hi with ⟨a, rfl, rfl⟩ | ⟨i, hi3, rfl, rfl, hn, hm⟩
  · refine ⟨?_, by omega⟩
    unfold head; rw [if_pos a, byte_split h1 h2]; rfl
  · obtain ⟨m1, m2⟩ := hm hk
    refine ⟨?_, ?_⟩
    · unfold head; rw [if_neg (by omega), sizeOf'_eq hi3 hn m2]
      simp only
      rw [byte_split h1 h2]; rfl
    · have : 256 ^ 2 ^ i ≤ 256 ^ 2 ^ 3 := Nat.pow_le_pow_right (by omega) (Nat.pow_le_pow_right (by omega) hi3)
      have e : 256 ^ 2 ^ 3 = 2 ^ 64 := by decide
      omega
theorem cons_len {b : UInt8} {t l r : Bytes} (h : l ++ r = b :: t) : r.length ≤ t.length + 1 := by
  have := congrArg List.length h
  simp at this; omega

/-- WHAT IS READ WAS WRITTEN. -/
theorem written_read (ok : C.Ok) {s r : Bytes} {x : Item} (h : readItem C s = .ok (x, r)) (hlen : s.length < 2 ^ 64) : s = written C x ++ r ∧ Fits x ∧ ∀ d, d ≤ 64 → sound C x d = 0 := by
  cases s with
  | nil => simp [readItem] at h
  | cons b t =>
    have hb := b.toNat_lt
    simp only [readItem] at h
    generalize hk : b.toNat / 32 = k at h
    generalize hinf : b.toNat % 32 = info at h
    have hk7 : k ≤ 7 := by omega
    by_cases hi : 27 < info
    · rw [if_pos hi] at h
      split at h <;> cases h
    rw [if_neg hi] at h
    cases hr : readNum k info t with
    | error e => rw [hr] at h; cases h
    | ok q =>
      obtain ⟨n, r0⟩ := q
      rw [hr] at h
      simp only at h
      by_cases k7 : k = 7
      · rw [if_pos k7] at h
        subst k7
        cases hs : special C info n with
        | error e => rw [hs] at h; cases h
        | ok y =>
          rw [hs] at h
          simp only [Except.ok.injEq, Prod.mk.injEq] at h
          obtain ⟨rfl, rfl⟩ := h
          unfold special at hs
          rcases readNum_open hr (by omega) with ⟨a, rfl, rfl⟩ | ⟨i, hi3, rfl, rfl, hn, _⟩
          · rw [if_pos (by omega), if_neg (by omega)] at hs
            simp only [Except.ok.injEq] at hs
            subst hs
            refine ⟨?_, ⟨by simp only; omega, by simp⟩, fun d hd => sound_mk (by simp only; omega) (by simp only; omega) (by simp only; omega) (fun _ => rfl) (fun _ => .inl a) (by simp only; omega) (by simp only; omega) hd⟩
            have e := byte_split hk hinf
            have ew : written C ⟨7, n, []⟩ = [UInt8.ofNat (32 * 7 + n)] := by
              simp only [written]
              rw [if_neg (by omega), if_pos trivial]
              unfold head; rw [if_pos a]
            rw [ew, e]; rfl
          · by_cases i0 : i = 0
            · subst i0
              rw [if_pos (by omega)] at hs
              split at hs
              · cases hs
              rename_i h32
              simp only [Except.ok.injEq] at hs
              subst hs
              simp at hn
              refine ⟨?_, ⟨by simp only; omega, by simp⟩, fun d hd => sound_mk (by simp only; omega) (by simp only; omega) (by simp only; omega) (fun _ => rfl) (fun _ => .inr ⟨by simp only; omega, by simp only; omega⟩) (by simp only; omega) (by simp only; omega) hd⟩
              have e := byte_split hk hinf
              have hsz : sizeOf' n = (24 + 0, 2 ^ 0) := sizeOf'_eq (by omega) (by simpa using hn) (by omega)
              simp only [written]
              rw [if_neg (by omega), if_pos trivial]
              unfold head
              rw [if_neg (by omega), hsz]
              simp only
              rw [e]; rfl
            · rw [if_neg (by omega)] at hs
              simp only at hs
              split at hs
              · cases hs
              rename_i hbad
              simp only [Except.ok.injEq] at hs
              have e24 : 24 + i - 24 = i := by omega
              rw [e24] at hbad
              have hnone : ¬ (C.none (C.widen (24 + i) n) = true ∧ C.widen (24 + i) n ≠ C.nan) := fun c => hbad (.inl c)
              have hlen' : (C.floated (C.widen (24 + i) n)).length = 1 + 2 ^ i := by
                apply Classical.byContradiction; intro c; exact hbad (.inr c)
              have hbk := ok.back (24 + i) n (by omega) (by omega) (by rw [e24]; exact hn) hnone (by rw [e24]; exact hlen')
              have hsm := ok.small (24 + i) n (by omega) (by omega) (by rw [e24]; exact hn)
              subst hs
              refine ⟨?_, ⟨hsm, by simp⟩, fun d hd => sound_mk (by simp only; omega) (by simp only; omega) (by simp only; omega) (fun _ => rfl) (by simp only; omega) (fun _ => hnone) (by simp only; omega) hd⟩
              have e := byte_split hk hinf
              simp only [written]
              rw [if_neg (by omega), if_neg (by omega), if_pos trivial, hbk, e24]
              rw [show 224 + (24 + i) = 32 * 7 + (24 + i) by omega, e]
              rfl
      · rw [if_neg k7] at h
        obtain ⟨hh, hn⟩ := head_of_read hk hinf (by omega) (by omega) hr
        by_cases k23 : k = 2 ∨ k = 3
        · rw [if_pos k23] at h
          by_cases hl : r0.length < n
          · rw [if_pos hl] at h; cases h
          rw [if_neg hl] at h
          by_cases hu : k = 3 ∧ C.utf8 (r0.take n) = false
          · rw [if_pos hu] at h; cases h
          rw [if_neg hu] at h
          simp only [Except.ok.injEq, Prod.mk.injEq] at h
          obtain ⟨rfl, rfl⟩ := h
          have hlt : (r0.take n).length = n := by simp; omega
          refine ⟨?_, ⟨by simp, by rw [hlt]; exact hn⟩, fun d hd => sound_mk (by simp only; omega) (by simp only; omega) (fun _ => rfl) (by simp only; omega) (by simp only; omega) (by simp only; omega) ?_ hd⟩
          · simp only [written]
            rw [if_pos (by omega), hlt, List.append_assoc, List.take_append_drop, ← hh]
            simp
          · intro e
            simp only at e ⊢
            cases e' : C.utf8 (r0.take n)
            · exact (hu ⟨by omega, e'⟩).elim
            · rfl
        · rw [if_neg k23] at h
          simp only [Except.ok.injEq, Prod.mk.injEq] at h
          obtain ⟨rfl, rfl⟩ := h
          refine ⟨?_, ⟨hn, by simp⟩, fun d hd => sound_mk (by simp only; omega) (by simp only; omega) (by simp only; omega) (fun _ => rfl) (by simp only; omega) (by simp only; omega) (by simp only; omega) hd⟩
          simp only [written]
          rw [if_neg (by omega), if_neg (by omega), if_neg (by omega), ← hh]
          simp

theorem readNum_cut {k i : Nat} {t : Bytes} (h : t.length < 2 ^ i) : readNum k (24 + i) t = .error 3 := by
  unfold readNum
  rw [if_neg (by omega)]
  have e : 24 + i - 24 = i := by omega
  simp only [e]
  rw [if_pos h]
/-- a head, cut -/
theorem read_head_cut {k i n : Nat} {p q : Bytes} (hk : k ≤ 7) (hi : i ≤ 3) (h : UInt8.ofNat (32 * k + (24 + i)) :: be n (2 ^ i) = p ++ q) (hp : p ≠ []) (hq : q ≠ []) : readItem C p = .error 3 := by
  cases p with
  | nil => exact (hp rfl).elim
  | cons b t =>
    simp only [List.cons_append, List.cons.injEq] at h
    obtain ⟨rfl, h⟩ := h
    have hl := congrArg List.length h
    rw [be_length, List.length_append] at hl
    have hq1 : 0 < q.length := List.length_pos_iff.2 hq
    have hb : (UInt8.ofNat (32 * k + (24 + i))).toNat = 32 * k + (24 + i) := byte_toNat _ (by omega)
    simp only [readItem, hb]
    rw [show (32 * k + (24 + i)) / 32 = k by omega, show (32 * k + (24 + i)) % 32 = 24 + i by omega, if_neg (by omega), readNum_cut (by omega)]
theorem one_cut {b : UInt8} {p q : Bytes} (h : [b] = p ++ q) (hp : p ≠ []) (hq : q ≠ []) : False := by
  have hl := congrArg List.length h
  rw [List.length_append] at hl
  have h1 : 0 < q.length := List.length_pos_iff.2 hq
  have h2 : 0 < p.length := List.length_pos_iff.2 hp
  simp at hl; omega
theorem read_head_cut' {k n : Nat} {p q : Bytes} (hk : k ≤ 7) (hn : n < 2 ^ 64) (h : head k n = p ++ q) (hp : p ≠ []) (hq : q ≠ []) : readItem C p = .error 3 := by
  unfold head at h
  by_cases h24 : n < 24
  · rw [if_pos h24] at h; exact (one_cut h hp hq).elim
  · rw [if_neg h24] at h
    obtain ⟨i, hi, e, _⟩ := size_cases n hn (by omega)
    rw [e] at h
    exact read_head_cut hk hi h hp hq
theorem split_cases {a b p q : Bytes} (h : a ++ b = p ++ q) : (∃ c, c ≠ [] ∧ a = p ++ c) ∨ ∃ c, p = a ++ c ∧ b = c ++ q := by
  rcases List.append_eq_append_iff.1 h with ⟨c, h1, h2⟩ | ⟨c, h1, h2⟩
  · exact .inr ⟨c, h1, h2⟩
  · by_cases hc : c = []
    · subst hc
      simp at h1 h2
      exact .inr ⟨[], by simp [h1], by simp [h2]⟩
    · exact .inl ⟨c, hc, h1⟩
/-- WHAT IS WRITTEN, CUT, IS MISSING SOMETHING. -/
theorem read_cut (ok : C.Ok) {x : Item} {d : Nat} (h : sound C x d = 0) (hf : Fits x) {p q : Bytes} (he : written C x = p ++ q) (hp : p ≠ []) (hq : q ≠ []) : readItem C p = .error 3 := by
  obtain ⟨h0, h8, hn, hs, h7, hfl, hu, _⟩ := sound_open h
  obtain ⟨k, hk⟩ := Int.eq_ofNat_of_zero_le h0
  obtain ⟨xk, xn, xs⟩ := x
  simp only at *
  subst hk
  have hk8 : k ≤ 8 := by omega
  by_cases k23 : k = 2 ∨ k = 3
  · have ew : written C ⟨k, xn, xs⟩ = head k xs.length ++ xs := by
      unfold written; rw [if_pos (by simp only; omega)]; simp
    rw [ew] at he
    rcases split_cases he with ⟨c, hc, e⟩ | ⟨c, e1, e2⟩
    · exact read_head_cut' (by omega) hf.2 e hp hc
    · obtain ⟨b, s, info, e, e3, e4, e5, e6, _⟩ := head_read (k := k) (n := xs.length) c (by omega) hf.2
      rw [e1, e]
      simp only [readItem, e3, e4]
      rw [if_neg (by omega), e6]
      simp only
      have hl := congrArg List.length e2
      rw [List.length_append] at hl
      have h1 : 0 < q.length := List.length_pos_iff.2 hq
      rw [if_neg (by omega), if_pos k23, if_pos (by omega)]
  · by_cases k8 : k = 8
    · subst k8
      have ew : written C ⟨(8 : Nat), xn, xs⟩ = C.floated xn := by simp [written]
      obtain ⟨info, hh, i1, i2, i3, i4, i5⟩ := ok.shape xn hf.1 (hfl (by rfl))
      rw [ew, i4] at he
      refine read_head_cut (k := 7) (i := info - 24) (n := hh) (by omega) (by omega) ?_ hp hq
      rw [← he, show 32 * 7 + (24 + (info - 24)) = 224 + info by omega]
    · have ew : written C ⟨k, xn, xs⟩ = head k xn := by
        by_cases k7 : k = 7
        · subst k7; simp [written]
        · unfold written
          rw [if_neg (by simp only; omega), if_neg (by simp only; omega), if_neg (by simp only; omega)]
          simp
      rw [ew] at he
      exact read_head_cut' (by omega) hf.1 he hp hq
theorem written_ne (ok : C.Ok) {x : Item} {d : Nat} (h : sound C x d = 0) (hf : Fits x) : written C x ≠ [] := by
  intro e
  have := read_written ok h hf []
  rw [e] at this
  simp [readItem] at this

/-! Lists -/
theorem norm_ne {st : List Nat} {n : Nat} {st' : List Nat} (h : norm st = n :: st') : 1 ≤ n := by
  induction st with
  | nil => simp [norm] at h
  | cons a st ih =>
    cases a with
    | zero => exact ih (by simpa [norm] using h)
    | succ a => simp [norm] at h; omega
theorem scanI_len : ∀ (l : List Item) (st : List Nat) (r : List Item), scanI C l st = (0, r) → ∃ m, l = m ++ r
  | [], st, r, h => by
    unfold scanI at h
    split at h <;> simp at h
    exact ⟨[], by simp [h]⟩
  | x :: l, st, r, h => by
    unfold scanI at h
    split at h
    · simp at h; exact ⟨[], by simp [h]⟩
    · split at h
      · obtain ⟨m, e⟩ := scanI_len l _ r h
        exact ⟨x :: m, by simp [← e]⟩
      · rename_i h1
        simp at h; exact (h1 h.1).elim
theorem all_cons (x : Item) (l : List Item) : all C (x :: l) = written C x ++ all C l := by simp [all]

/-- THE SCAN OF WHAT IS WRITTEN, and then more. -/
theorem scanB_all (ok : C.Ok) : ∀ (l : List Item) (st : List Nat) (k : Nat) (r : Bytes), (∀ x ∈ l, Fits x) → l.length ≤ k → scanI C l st = (0, []) →
    scanB C k (all C l ++ r) st = (0, l, r)
  | [], st, k, r, _, _, h => by
    unfold scanI at h
    unfold scanB
    cases hn : norm st with
    | nil => simp [all]
    | cons n st' => rw [hn] at h; simp at h
  | x :: l, st, k, r, hf, hl, h => by
    unfold scanI at h
    cases hn : norm st with
    | nil => rw [hn] at h; simp at h
    | cons n st' =>
      rw [hn] at h
      simp only at h
      split at h
      · rename_i hs
        obtain ⟨k, rfl⟩ : ∃ k', k = k' + 1 := ⟨k - 1, by simp at hl; omega⟩
        have hfx := hf x (by simp)
        have hd := (sound_open hs).2.2.2.2.2.2.2
        have ih := scanB_all ok l (inside x :: (n - 1) :: st') k r (fun y hy => hf y (by simp [hy])) (by simp at hl; omega) h
        unfold scanB
        rw [hn]
        simp only
        rw [if_neg, if_neg (by omega), all_cons, List.append_assoc, read_written ok hs hfx]
        · simp only [ih]
        · intro e
          rw [all_cons, List.append_assoc, List.append_eq_nil_iff] at e
          exact written_ne ok hs hfx e.1
      · rename_i hs
        simp at h

/-- THE SCAN OF WHAT IS WRITTEN, CUT. -/
theorem scanB_cut (ok : C.Ok) : ∀ (l : List Item) (st : List Nat) (k : Nat) (p q : Bytes), (∀ x ∈ l, Fits x) → l.length ≤ k → scanI C l st = (0, []) →
    all C l = p ++ q → q ≠ [] → (scanB C k p st).1 = 3
  | [], st, k, p, q, _, _, h, he, hq => by
    simp [all] at he; exact (hq he.2).elim
  | x :: l, st, k, p, q, hf, hl, h, he, hq => by
    unfold scanI at h
    cases hn : norm st with
    | nil => rw [hn] at h; simp at h
    | cons n st' =>
      rw [hn] at h
      simp only at h
      split at h
      · rename_i hs
        obtain ⟨k, rfl⟩ : ∃ k', k = k' + 1 := ⟨k - 1, by simp at hl; omega⟩
        have hfx := hf x (by simp)
        have hd := (sound_open hs).2.2.2.2.2.2.2
        unfold scanB
        rw [hn]
        simp only
        by_cases hp : p = []
        · rw [if_pos hp]
        rw [if_neg hp, if_neg (by omega)]
        rw [all_cons] at he
        rcases split_cases he with ⟨c, hc, e⟩ | ⟨c, e1, e2⟩
        · rw [read_cut ok hs hfx e hp hc]
        · have ih := scanB_cut ok l (inside x :: (n - 1) :: st') k c q (fun y hy => hf y (by simp [hy])) (by simp at hl; omega) h e2 hq
          rw [e1, read_written ok hs hfx]
          simp only [ih]
      · simp at h

/-- no error is 0 -/
theorem readNum_not_zero {k info : Nat} {s : Bytes} : readNum k info s ≠ .error 0 := by
  unfold readNum
  intro h
  split at h
  · cases h
  · simp only at h
    split at h
    · simp at h
    · split at h <;> simp at h
theorem special_not_zero {info n : Nat} : special C info n ≠ .error 0 := by
  unfold special
  intro h
  split at h
  · split at h <;> simp at h
  · simp only at h
    split at h <;> simp at h
theorem read_not_zero (s : Bytes) : readItem C s ≠ .error 0 := by
  intro h
  cases s with
  | nil => simp [readItem] at h
  | cons b t =>
    simp only [readItem] at h
    split at h
    · split at h <;> simp at h
    · split at h
      · rename_i e hr
        simp only [Except.error.injEq] at h
        subst h
        exact readNum_not_zero hr
      · split at h
        · split at h
          · rename_i hr
            simp only [Except.error.injEq] at h
            subst h
            exact special_not_zero hr
          · cases h
        · split at h
          · split at h
            · simp at h
            · split at h <;> simp at h
          · cases h
/-- WHAT THE SCAN READS WAS WRITTEN. -/
theorem scanB_back (ok : C.Ok) : ∀ (k : Nat) (s : Bytes) (st : List Nat) (l : List Item) (r : Bytes), s.length < 2 ^ 64 → scanB C k s st = (0, l, r) →
    s = all C l ++ r ∧ (∀ x ∈ l, Fits x) ∧ l.length ≤ k ∧ scanI C l st = (0, []) := by
  intro k
  induction k with
  | zero =>
    intro s st l r hs h
    unfold scanB at h
    cases hn : norm st with
    | nil => rw [hn] at h; simp at h; obtain ⟨rfl, rfl⟩ := h; exact ⟨by simp [all], by simp, by simp, by simp [scanI, hn]⟩
    | cons n st' => rw [hn] at h; simp only at h; split at h <;> simp at h
  | succ k ih =>
    intro s st l r hs h
    unfold scanB at h
    cases hn : norm st with
    | nil => rw [hn] at h; simp at h; obtain ⟨rfl, rfl⟩ := h; exact ⟨by simp [all], by simp, by simp, by simp [scanI, hn]⟩
    | cons n st' =>
      rw [hn] at h
      simp only at h
      split at h
      · simp at h
      split at h
      · simp at h
      rename_i hd
      split at h
      · simp only [Prod.mk.injEq] at h
        obtain ⟨rfl, -, -⟩ := h
        rename_i hr
        exact absurd hr (read_not_zero s)
      · rename_i x r' hr
        simp only [Prod.mk.injEq] at h
        obtain ⟨h1, h2, h3⟩ := h
        obtain ⟨e, hfx, hso⟩ := written_read ok hr hs
        generalize hq : scanB C k r' (inside x :: (n - 1) :: st') = qq at h1 h2 h3
        obtain ⟨a, b, c⟩ := qq
        simp only at h1 h2 h3
        subst h1 h2 h3
        have hrl : r'.length < 2 ^ 64 := by
          have := congrArg List.length e
          rw [List.length_append] at this; omega
        obtain ⟨e2, hf2, hl2, hs2⟩ := ih r' _ b c hrl hq
        refine ⟨by rw [all_cons, List.append_assoc, ← e2]; exact e, ?_, by simp; omega, ?_⟩
        · intro y hy
          rcases List.mem_cons.1 hy with rfl | hy
          · exact hfx
          · exact hf2 y hy
        · unfold scanI
          rw [hn]
          simp only
          rw [if_pos (hso _ (by omega))]
          exact hs2

variable {whole : List Item → Nat}
theorem enc_open {l : List Item} {s : Bytes} (h : enc C whole l = (s, 0)) : l.length ≤ 600 ∧ scanI C l [1] = (0, []) ∧ whole l = 0 ∧ s = all C l ∧ s.length ≤ 4096 := by
  unfold enc at h
  split at h
  · simp at h
  simp only at h
  split at h
  · rename_i hq; simp at h; exact (hq h.2).elim
  split at h
  · simp at h
  split at h
  · rename_i hw; simp at h; exact (hw h.2).elim
  split at h
  · simp at h
  simp at h
  rename_i h1 h2 h3 h4 h5
  subst h
  refine ⟨by omega, ?_, by omega, rfl, by omega⟩
  exact Prod.ext (by simp only; omega) (Classical.byContradiction fun c => h3 c)
theorem enc_mk {l : List Item} (h1 : l.length ≤ 600) (h2 : scanI C l [1] = (0, [])) (h3 : whole l = 0) (h4 : (all C l).length ≤ 4096) : enc C whole l = (all C l, 0) := by
  unfold enc
  rw [if_neg (by omega)]
  simp only [h2, h3]
  rw [if_neg (by omega), if_neg (by simp), if_neg (by omega), if_neg (by omega)]
theorem dec_open {s : Bytes} {l : List Item} (h : dec C whole s = (l, 0)) : s.length ≤ 4096 ∧ scanB C 600 s [1] = (0, l, []) ∧ whole l = 0 := by
  unfold dec at h
  split at h
  · simp at h
  simp only at h
  split at h
  · rename_i hq; simp at h; exact (hq h.2).elim
  split at h
  · simp at h
  split at h
  · rename_i hw; simp at h; exact (hw h.2).elim
  simp at h
  rename_i h1 h2 h3 h4
  refine ⟨by omega, ?_, by rw [← h]; omega⟩
  refine Prod.ext (by simp only; omega) (Prod.ext h (Classical.byContradiction fun c => h3 c))
theorem dec_mk {s : Bytes} {l : List Item} (h1 : s.length ≤ 4096) (h2 : scanB C 600 s [1] = (0, l, [])) (h3 : whole l = 0) : dec C whole s = (l, 0) := by
  unfold dec
  rw [if_neg (by omega)]
  simp only [h2, h3]
  simp

/-- Decode of what Encode gives is the value. -/
theorem dec_enc (ok : C.Ok) {l : List Item} {s : Bytes} (hf : ∀ x ∈ l, Fits x) (h : enc C whole l = (s, 0)) : dec C whole s = (l, 0) := by
  obtain ⟨h1, h2, h3, rfl, h5⟩ := enc_open h
  refine dec_mk h5 ?_ h3
  have := scanB_all ok l [1] 600 [] hf h1 h2
  rwa [List.append_nil] at this
/-- Encode of what Decode gives is the bytes. -/
theorem enc_dec (ok : C.Ok) {l : List Item} {s : Bytes} (h : dec C whole s = (l, 0)) : enc C whole l = (s, 0) ∧ ∀ x ∈ l, Fits x := by
  obtain ⟨h1, h2, h3⟩ := dec_open h
  obtain ⟨e, hf, hl, hs⟩ := scanB_back ok 600 s [1] l [] (by omega) h2
  rw [List.append_nil] at e
  subst e
  exact ⟨enc_mk hl hs h3 h1, hf⟩
/-- Each beginning is missing something. -/
theorem dec_cut (ok : C.Ok) {l : List Item} {s : Bytes} (hf : ∀ x ∈ l, Fits x) (h : enc C whole l = (s, 0)) {n : Nat} (hn : n < s.length) : dec C whole (s.take n) = ([], 3) := by
  obtain ⟨h1, h2, h3, e, h5⟩ := enc_open h
  have hc := scanB_cut ok l [1] 600 (s.take n) (s.drop n) hf h1 h2 (by rw [List.take_append_drop, e]) (by intro c; have := congrArg List.length c; simp at this; omega)
  unfold dec
  rw [if_neg (by simp; omega)]
  simp only [hc]
  rw [if_pos (by omega)]
/-- One more is too many. -/
theorem dec_more (ok : C.Ok) {l : List Item} {s : Bytes} (hf : ∀ x ∈ l, Fits x) (h : enc C whole l = (s, 0)) (b : UInt8) :
    dec C whole (s ++ [b]) = ([], if s.length = 4096 then 2 else 4) := by
  obtain ⟨h1, h2, h3, e, h5⟩ := enc_open h
  have hc := scanB_all ok l [1] 600 [b] hf h1 h2
  rw [← e] at hc
  unfold dec
  by_cases hl : s.length = 4096
  · rw [if_pos (by simp; omega), if_pos hl]
  · rw [if_neg (by simp; omega), if_neg hl]
    simp only [hc]
    simp
theorem enc_ne (ok : C.Ok) {l : List Item} {s : Bytes} (hf : ∀ x ∈ l, Fits x) (h : enc C whole l = (s, 0)) : s ≠ [] := by
  obtain ⟨h1, h2, h3, e, h5⟩ := enc_open h
  subst e
  cases l with
  | nil => simp [scanI, norm] at h2
  | cons x l =>
    unfold scanI at h2
    simp only [norm] at h2
    split at h2
    · rename_i hs
      rw [all_cons]
      intro c
      exact written_ne ok hs (hf x (by simp)) (List.append_eq_nil_iff.1 c).1
    · simp at h2
theorem enc_err {l : List Item} (h : (enc C whole l).2 ≠ 0) : (enc C whole l).1 = [] := by
  unfold enc at h ⊢
  split
  · rfl
  simp only at h ⊢
  split
  · rfl
  split
  · rfl
  split
  · rfl
  split
  · rfl
  · rename_i a b c d e
    rw [if_neg a, if_neg b, if_neg c, if_neg d, if_neg e] at h
    exact (h rfl).elim
theorem dec_err {s : Bytes} (h : (dec C whole s).2 ≠ 0) : (dec C whole s).1 = [] := by
  unfold dec at h ⊢
  split
  · rfl
  simp only at h ⊢
  split
  · rfl
  split
  · rfl
  split
  · rfl
  · rename_i a b c d
    rw [if_neg a, if_neg b, if_neg c, if_neg d] at h
    exact (h rfl).elim

/-! Floating-point numbers -/
/-- the 64 bits of a number of e bits of exponent and p of part -/
def widened (e p n : Nat) : Nat :=
  let sign := n / 2 ^ (e + p)
  let x := n / 2 ^ p % 2 ^ e
  let part := n % 2 ^ p
  if x = 2 ^ e - 1 then sign * 2 ^ 63 + 2047 * 2 ^ 52 + part * 2 ^ (52 - p)
  else if x = 0 ∧ part = 0 then sign * 2 ^ 63
  else if x = 0 then sign * 2 ^ 63 + (1023 - (2 ^ (e - 1) - 1) - p + (part.log2 + 1)) * 2 ^ 52 + (part * 2 ^ (53 - (part.log2 + 1)) - 2 ^ 52)
  else sign * 2 ^ 63 + (x + 1023 - (2 ^ (e - 1) - 1)) * 2 ^ 52 + part * 2 ^ (52 - p)

/-- the bits of a number of 64 bits in a smaller format, if it is one there -/
def packed (e p b : Nat) : Option Nat :=
  let sign := b / 2 ^ 63 * 2 ^ (e + p)
  let x := b / 2 ^ 52 % 2048
  let m := b % 2 ^ 52
  let bias := 2 ^ (e - 1) - 1
  if x = 0 ∧ m = 0 then some sign
  else if x = 2047 then (if m = 0 then some (sign + (2 ^ e - 1) * 2 ^ p) else none)
  else if x = 0 then none
  else if 1023 + bias < x then none
  else if 1024 - bias ≤ x then (if m % 2 ^ (52 - p) = 0 then some (sign + (x + bias - 1023) * 2 ^ p + m / 2 ^ (52 - p)) else none)
  else (if (2 ^ 52 + m) % 2 ^ (1076 - bias - p - x) = 0 then some (sign + (2 ^ 52 + m) / 2 ^ (1076 - bias - p - x)) else none)

theorem log2_of {n k : Nat} (h1 : 2 ^ k ≤ n) (h2 : n < 2 ^ (k + 1)) : n.log2 = k := by
  have hn : n ≠ 0 := by have := Nat.two_pow_pos k; omega
  exact (Nat.log2_eq_iff hn).2 ⟨h1, h2⟩


theorem d1 (s x m : Nat) (_hs : s < 2) (hx : x < 2048) (hm : m < 2 ^ 52) : (s * 2 ^ 63 + x * 2 ^ 52 + m) / 2 ^ 63 = s := by omega
theorem d2 (s x m : Nat) (_hs : s < 2) (hx : x < 2048) (hm : m < 2 ^ 52) : (s * 2 ^ 63 + x * 2 ^ 52 + m) / 2 ^ 52 % 2048 = x := by omega
theorem d3 (s x m : Nat) (_hs : s < 2) (_hx : x < 2048) (hm : m < 2 ^ 52) : (s * 2 ^ 63 + x * 2 ^ 52 + m) % 2 ^ 52 = m := by omega
theorem d4 (b : Nat) (hb : b < 2 ^ 64) : ∃ s x m, s < 2 ∧ x < 2048 ∧ m < 2 ^ 52 ∧ b = s * 2 ^ 63 + x * 2 ^ 52 + m := by
  refine ⟨b / 2 ^ 63, b / 2 ^ 52 % 2048, b % 2 ^ 52, by omega, by omega, by omega, ?_⟩
  have h1 := Nat.div_add_mod b (2 ^ 52)
  have h2 := Nat.div_add_mod (b / 2 ^ 52) 2048
  have h3 : b / 2 ^ 52 / 2048 = b / 2 ^ 63 := by rw [Nat.div_div_eq_div_mul]
  rw [h3] at h2
  generalize b / 2 ^ 63 = s at *
  generalize b / 2 ^ 52 % 2048 = x at *
  generalize b % 2 ^ 52 = m at *
  generalize b / 2 ^ 52 = y at *
  omega
theorem part_bounds {part k : Nat} (hk : k ≤ 52) (hk1 : 2 ^ k ≤ part) (hk2 : part < 2 ^ (k + 1)) : 2 ^ 52 ≤ part * 2 ^ (52 - k) ∧ part * 2 ^ (52 - k) < 2 ^ 53 := by
  have e1 : 2 ^ k * 2 ^ (52 - k) = 2 ^ 52 := by rw [← Nat.pow_add]; congr 1; omega
  have e2 : 2 ^ (k + 1) * 2 ^ (52 - k) = 2 ^ 53 := by rw [← Nat.pow_add]; congr 1; omega
  constructor
  · rw [← e1]; exact Nat.mul_le_mul_right _ hk1
  · rw [← e2]; exact Nat.mul_lt_mul_of_pos_right hk2 (Nat.two_pow_pos _)

theorem f1_16 (s x m : Nat) (_hs : s < 2) (hx : x < 32) (hm : m < 1024) : (s * 32768 + x * 1024 + m) / 32768 = s := by omega
theorem f2_16 (s x m : Nat) (_hs : s < 2) (hx : x < 32) (hm : m < 1024) : (s * 32768 + x * 1024 + m) / 1024 % 32 = x := by omega
theorem f3_16 (s x m : Nat) (_hs : s < 2) (_hx : x < 32) (hm : m < 1024) : (s * 32768 + x * 1024 + m) % 1024 = m := by omega
theorem f4_16 (b : Nat) (hb : b < 65536) : ∃ s x m, s < 2 ∧ x < 32 ∧ m < 1024 ∧ b = s * 32768 + x * 1024 + m := ⟨b / 32768, b / 1024 % 32, b % 1024, by omega, by omega, by omega, by omega⟩
theorem widened_eq_16 (n : Nat) : widened 5 10 n = if n / 1024 % 32 = 31 then n / 32768 * 2 ^ 63 + 2047 * 2 ^ 52 + n % 1024 * 2 ^ 42 else if n / 1024 % 32 = 0 ∧ n % 1024 = 0 then n / 32768 * 2 ^ 63
      else if n / 1024 % 32 = 0 then n / 32768 * 2 ^ 63 + (998 + ((n % 1024).log2 + 1)) * 2 ^ 52 + (n % 1024 * 2 ^ (53 - ((n % 1024).log2 + 1)) - 2 ^ 52)
      else n / 32768 * 2 ^ 63 + (n / 1024 % 32 + 1023 - 15) * 2 ^ 52 + n % 1024 * 2 ^ 42 := rfl
theorem packed_eq_16 (b : Nat) : packed 5 10 b = if b / 2 ^ 52 % 2048 = 0 ∧ b % 2 ^ 52 = 0 then some (b / 2 ^ 63 * 32768) else if b / 2 ^ 52 % 2048 = 2047 then (if b % 2 ^ 52 = 0 then some (b / 2 ^ 63 * 32768 + 31 * 1024) else none)
      else if b / 2 ^ 52 % 2048 = 0 then none else if 1023 + 15 < b / 2 ^ 52 % 2048 then none
      else if 1024 - 15 ≤ b / 2 ^ 52 % 2048 then (if b % 2 ^ 52 % 2 ^ 42 = 0 then some (b / 2 ^ 63 * 32768 + (b / 2 ^ 52 % 2048 + 15 - 1023) * 1024 + b % 2 ^ 52 / 2 ^ 42) else none)
      else (if (2 ^ 52 + b % 2 ^ 52) % 2 ^ (1051 - b / 2 ^ 52 % 2048) = 0 then some (b / 2 ^ 63 * 32768 + (2 ^ 52 + b % 2 ^ 52) / 2 ^ (1051 - b / 2 ^ 52 % 2048)) else none) := rfl
theorem widened_16 (s x m : Nat) (hs : s < 2) (hx : x < 32) (hm : m < 1024) : widened 5 10 (s * 32768 + x * 1024 + m) = if x = 31 then s * 2 ^ 63 + 2047 * 2 ^ 52 + m * 2 ^ 42 else if x = 0 ∧ m = 0 then s * 2 ^ 63
      else if x = 0 then s * 2 ^ 63 + (998 + (m.log2 + 1)) * 2 ^ 52 + (m * 2 ^ (53 - (m.log2 + 1)) - 2 ^ 52)
      else s * 2 ^ 63 + (x + 1023 - 15) * 2 ^ 52 + m * 2 ^ 42 := by
  rw [widened_eq_16, f1_16 s x m hs hx hm, f2_16 s x m hs hx hm, f3_16 s x m hs hx hm]
theorem packed_16 (s x m : Nat) (hs : s < 2) (hx : x < 2048) (hm : m < 2 ^ 52) : packed 5 10 (s * 2 ^ 63 + x * 2 ^ 52 + m) = if x = 0 ∧ m = 0 then some (s * 32768) else if x = 2047 then (if m = 0 then some (s * 32768 + 31 * 1024) else none)
      else if x = 0 then none else if 1023 + 15 < x then none
      else if 1024 - 15 ≤ x then (if m % 2 ^ 42 = 0 then some (s * 32768 + (x + 15 - 1023) * 1024 + m / 2 ^ 42) else none)
      else (if (2 ^ 52 + m) % 2 ^ (1051 - x) = 0 then some (s * 32768 + (2 ^ 52 + m) / 2 ^ (1051 - x)) else none) := by
  rw [packed_eq_16, d1 s x m hs hx hm, d2 s x m hs hx hm, d3 s x m hs hx hm]
/-- bits of 16 that are a number -/
theorem packed_widened_16 (s x m : Nat) (hs : s < 2) (hx : x < 32) (hm : m < 1024) (hnan : ¬ (x = 31 ∧ m ≠ 0)) :
    packed 5 10 (widened 5 10 (s * 32768 + x * 1024 + m)) = some (s * 32768 + x * 1024 + m) := by
  rw [widened_16 s x m hs hx hm]
  by_cases h1 : x = 31
  · have h0 : m = 0 := by omega
    rw [if_pos h1, h0, Nat.zero_mul, packed_16 s 2047 0 hs (by omega) (by omega), if_neg (by omega), if_pos rfl, if_pos rfl, h1, Nat.add_zero]
  rw [if_neg h1]
  by_cases h2 : x = 0 ∧ m = 0
  · obtain ⟨rfl, rfl⟩ := h2
    have := packed_16 s 0 0 hs (by omega) (by omega)
    rw [if_pos (by simp)] at this ⊢
    simpa using this
  rw [if_neg h2]
  by_cases h3 : x = 0
  · subst h3
    rw [if_pos rfl]
    have hm0 : m ≠ 0 := by omega
    obtain ⟨k, hk, hk1, hk2⟩ : ∃ k, k < 10 ∧ 2 ^ k ≤ m ∧ m < 2 ^ (k + 1) := by
      refine ⟨m.log2, ?_, Nat.log2_self_le hm0, Nat.lt_log2_self⟩
      exact (Nat.log2_lt hm0).2 (by simpa using hm)
    rw [log2_of hk1 hk2, show 53 - (k + 1) = 52 - k by omega]
    obtain ⟨hq1, hq2⟩ := part_bounds (by omega) hk1 hk2
    have hm' : m * 2 ^ (52 - k) - 2 ^ 52 < 2 ^ 52 := by omega
    rw [packed_16 s (998 + (k + 1)) (m * 2 ^ (52 - k) - 2 ^ 52) hs (by omega) hm']
    rw [if_neg (by omega), if_neg (by omega), if_neg (by omega), if_neg (by omega), if_neg (by omega)]
    rw [show 1051 - (998 + (k + 1)) = 52 - k by omega, show 2 ^ 52 + (m * 2 ^ (52 - k) - 2 ^ 52) = m * 2 ^ (52 - k) by omega,
      Nat.mul_mod_left, if_pos rfl, Nat.mul_div_cancel _ (Nat.two_pow_pos _)]
    simp
  · rw [if_neg h3]
    have hm' : m * 2 ^ 42 < 2 ^ 52 := by omega
    rw [packed_16 s (x + 1023 - 15) (m * 2 ^ 42) hs (by omega) hm']
    rw [if_neg (by omega), if_neg (by omega), if_neg (by omega), if_neg (by omega), if_pos (by omega), Nat.mul_mod_left, if_pos rfl, Nat.mul_div_cancel _ (Nat.two_pow_pos _)]
    rw [show x + 1023 - 15 + 15 - 1023 = x by omega]
/-- what is packed into 16 bits is the same number -/
theorem widened_packed_16 (b h : Nat) (hb : b < 2 ^ 64) (hp : packed 5 10 b = some h) : widened 5 10 h = b ∧ ∃ s x m, s < 2 ∧ x < 32 ∧ m < 1024 ∧ h = s * 32768 + x * 1024 + m ∧ ¬ (x = 31 ∧ m ≠ 0) := by
  obtain ⟨s, x, m, hs, hx, hm, rfl⟩ := d4 b hb
  rw [packed_16 s x m hs hx hm] at hp
  by_cases h1 : x = 0 ∧ m = 0
  · rw [if_pos h1] at hp
    obtain ⟨rfl, rfl⟩ := h1
    simp only [Option.some.injEq] at hp
    subst hp
    refine ⟨?_, s, 0, 0, hs, by omega, by omega, by omega, by omega⟩
    have := widened_16 s 0 0 hs (by omega) (by omega)
    rw [if_neg (by omega), if_pos (by simp)] at this
    simpa using this
  rw [if_neg h1] at hp
  by_cases h2 : x = 2047
  · rw [if_pos h2] at hp
    by_cases h3 : m = 0
    · rw [if_pos h3] at hp
      simp only [Option.some.injEq] at hp
      subst hp h2 h3
      refine ⟨?_, s, 31, 0, hs, by omega, by omega, by omega, by omega⟩
      have := widened_16 s 31 0 hs (by omega) (by omega)
      rw [if_pos rfl, Nat.zero_mul, Nat.add_zero, Nat.add_zero] at this
      rw [Nat.add_zero]; exact this
    · rw [if_neg h3] at hp; cases hp
  rw [if_neg h2] at hp
  by_cases h3 : x = 0
  · rw [if_pos h3] at hp; cases hp
  rw [if_neg h3] at hp
  by_cases h4 : 1023 + 15 < x
  · rw [if_pos h4] at hp; cases hp
  rw [if_neg h4] at hp
  by_cases h5 : 1024 - 15 ≤ x
  · rw [if_pos h5] at hp
    by_cases h6 : m % 2 ^ 42 = 0
    · rw [if_pos h6] at hp
      simp only [Option.some.injEq] at hp
      have hdiv : m / 2 ^ 42 * 2 ^ 42 = m := Nat.div_mul_cancel (Nat.dvd_of_mod_eq_zero h6)
      obtain ⟨part, hpart⟩ : ∃ part, part = m / 2 ^ 42 := ⟨_, rfl⟩
      rw [← hpart] at hdiv hp
      clear hpart
      have hpl : part < 1024 := by omega
      subst hp
      refine ⟨?_, s, x + 15 - 1023, part, hs, by omega, hpl, rfl, by omega⟩
      rw [widened_16 s (x + 15 - 1023) part hs (by omega) hpl, if_neg (by omega), if_neg (by omega), if_neg (by omega), hdiv, show x + 15 - 1023 + 1023 - 15 = x by omega]
    · rw [if_neg h6] at hp; cases hp
  rw [if_neg h5] at hp
  by_cases h6 : (2 ^ 52 + m) % 2 ^ (1051 - x) = 0
  · rw [if_pos h6] at hp
    simp only [Option.some.injEq] at hp
    obtain ⟨M, hM⟩ : ∃ M, M = 2 ^ 52 + m := ⟨_, rfl⟩
    rw [← hM] at h6 hp
    have ht : 1051 - x ≤ 52 := by
      apply Classical.byContradiction; intro c
      have : 2 ^ 53 ≤ 2 ^ (1051 - x) := Nat.pow_le_pow_right (by omega) (by omega)
      rw [Nat.mod_eq_of_lt (by omega)] at h6; omega
    obtain ⟨k, hk, hkp⟩ : ∃ k, 1051 - x = 52 - k ∧ k < 10 := ⟨52 - (1051 - x), by omega, by omega⟩
    rw [hk] at h6 hp
    have hdiv : M / 2 ^ (52 - k) * 2 ^ (52 - k) = M := Nat.div_mul_cancel (Nat.dvd_of_mod_eq_zero h6)
    obtain ⟨part, hpart⟩ : ∃ part, part = M / 2 ^ (52 - k) := ⟨_, rfl⟩
    rw [← hpart] at hdiv hp
    have e1 : 2 ^ k * 2 ^ (52 - k) = 2 ^ 52 := by rw [← Nat.pow_add]; congr 1; omega
    have e2 : 2 ^ (k + 1) * 2 ^ (52 - k) = 2 ^ 53 := by rw [← Nat.pow_add]; congr 1; omega
    have hk1 : 2 ^ k ≤ part := by
      apply Classical.byContradiction; intro c
      have : part * 2 ^ (52 - k) < 2 ^ k * 2 ^ (52 - k) := Nat.mul_lt_mul_of_pos_right (by omega) (Nat.two_pow_pos _)
      omega
    have hk2 : part < 2 ^ (k + 1) := by
      apply Classical.byContradiction; intro c
      have : 2 ^ (k + 1) * 2 ^ (52 - k) ≤ part * 2 ^ (52 - k) := Nat.mul_le_mul_right _ (by omega)
      omega
    have hk3 : (2 : Nat) ^ (k + 1) ≤ 2 ^ 10 := Nat.pow_le_pow_right (by omega) (by omega)
    have hk4 : 1 ≤ (2 : Nat) ^ k := Nat.two_pow_pos _
    have hpl : part < 1024 := by
      have e : (2 : Nat) ^ 10 = 1024 := by decide
      omega
    subst hp
    refine ⟨?_, s, 0, part, hs, by omega, hpl, by omega, by omega⟩
    have := widened_16 s 0 part hs (by omega) hpl
    rw [if_neg (by omega), if_neg (by omega), if_pos rfl, log2_of hk1 hk2, show 53 - (k + 1) = 52 - k by omega, hdiv, show 998 + (k + 1) = x by omega, show M - 2 ^ 52 = m by omega] at this
    simpa using this
  · rw [if_neg h6] at hp; cases hp

theorem f1_32 (s x m : Nat) (_hs : s < 2) (hx : x < 256) (hm : m < 8388608) : (s * 2147483648 + x * 8388608 + m) / 2147483648 = s := by omega
theorem f2_32 (s x m : Nat) (_hs : s < 2) (hx : x < 256) (hm : m < 8388608) : (s * 2147483648 + x * 8388608 + m) / 8388608 % 256 = x := by omega
theorem f3_32 (s x m : Nat) (_hs : s < 2) (_hx : x < 256) (hm : m < 8388608) : (s * 2147483648 + x * 8388608 + m) % 8388608 = m := by omega
theorem f4_32 (b : Nat) (hb : b < 4294967296) : ∃ s x m, s < 2 ∧ x < 256 ∧ m < 8388608 ∧ b = s * 2147483648 + x * 8388608 + m := ⟨b / 2147483648, b / 8388608 % 256, b % 8388608, by omega, by omega, by omega, by omega⟩
theorem widened_eq_32 (n : Nat) : widened 8 23 n = if n / 8388608 % 256 = 255 then n / 2147483648 * 2 ^ 63 + 2047 * 2 ^ 52 + n % 8388608 * 2 ^ 29 else if n / 8388608 % 256 = 0 ∧ n % 8388608 = 0 then n / 2147483648 * 2 ^ 63
      else if n / 8388608 % 256 = 0 then n / 2147483648 * 2 ^ 63 + (873 + ((n % 8388608).log2 + 1)) * 2 ^ 52 + (n % 8388608 * 2 ^ (53 - ((n % 8388608).log2 + 1)) - 2 ^ 52)
      else n / 2147483648 * 2 ^ 63 + (n / 8388608 % 256 + 1023 - 127) * 2 ^ 52 + n % 8388608 * 2 ^ 29 := rfl
theorem packed_eq_32 (b : Nat) : packed 8 23 b = if b / 2 ^ 52 % 2048 = 0 ∧ b % 2 ^ 52 = 0 then some (b / 2 ^ 63 * 2147483648) else if b / 2 ^ 52 % 2048 = 2047 then (if b % 2 ^ 52 = 0 then some (b / 2 ^ 63 * 2147483648 + 255 * 8388608) else none)
      else if b / 2 ^ 52 % 2048 = 0 then none else if 1023 + 127 < b / 2 ^ 52 % 2048 then none
      else if 1024 - 127 ≤ b / 2 ^ 52 % 2048 then (if b % 2 ^ 52 % 2 ^ 29 = 0 then some (b / 2 ^ 63 * 2147483648 + (b / 2 ^ 52 % 2048 + 127 - 1023) * 8388608 + b % 2 ^ 52 / 2 ^ 29) else none)
      else (if (2 ^ 52 + b % 2 ^ 52) % 2 ^ (926 - b / 2 ^ 52 % 2048) = 0 then some (b / 2 ^ 63 * 2147483648 + (2 ^ 52 + b % 2 ^ 52) / 2 ^ (926 - b / 2 ^ 52 % 2048)) else none) := rfl
theorem widened_32 (s x m : Nat) (hs : s < 2) (hx : x < 256) (hm : m < 8388608) : widened 8 23 (s * 2147483648 + x * 8388608 + m) = if x = 255 then s * 2 ^ 63 + 2047 * 2 ^ 52 + m * 2 ^ 29 else if x = 0 ∧ m = 0 then s * 2 ^ 63
      else if x = 0 then s * 2 ^ 63 + (873 + (m.log2 + 1)) * 2 ^ 52 + (m * 2 ^ (53 - (m.log2 + 1)) - 2 ^ 52)
      else s * 2 ^ 63 + (x + 1023 - 127) * 2 ^ 52 + m * 2 ^ 29 := by
  rw [widened_eq_32, f1_32 s x m hs hx hm, f2_32 s x m hs hx hm, f3_32 s x m hs hx hm]
theorem packed_32 (s x m : Nat) (hs : s < 2) (hx : x < 2048) (hm : m < 2 ^ 52) : packed 8 23 (s * 2 ^ 63 + x * 2 ^ 52 + m) = if x = 0 ∧ m = 0 then some (s * 2147483648) else if x = 2047 then (if m = 0 then some (s * 2147483648 + 255 * 8388608) else none)
      else if x = 0 then none else if 1023 + 127 < x then none
      else if 1024 - 127 ≤ x then (if m % 2 ^ 29 = 0 then some (s * 2147483648 + (x + 127 - 1023) * 8388608 + m / 2 ^ 29) else none)
      else (if (2 ^ 52 + m) % 2 ^ (926 - x) = 0 then some (s * 2147483648 + (2 ^ 52 + m) / 2 ^ (926 - x)) else none) := by
  rw [packed_eq_32, d1 s x m hs hx hm, d2 s x m hs hx hm, d3 s x m hs hx hm]
/-- bits of 32 that are a number -/
theorem packed_widened_32 (s x m : Nat) (hs : s < 2) (hx : x < 256) (hm : m < 8388608) (hnan : ¬ (x = 255 ∧ m ≠ 0)) :
    packed 8 23 (widened 8 23 (s * 2147483648 + x * 8388608 + m)) = some (s * 2147483648 + x * 8388608 + m) := by
  rw [widened_32 s x m hs hx hm]
  by_cases h1 : x = 255
  · have h0 : m = 0 := by omega
    rw [if_pos h1, h0, Nat.zero_mul, packed_32 s 2047 0 hs (by omega) (by omega), if_neg (by omega), if_pos rfl, if_pos rfl, h1, Nat.add_zero]
  rw [if_neg h1]
  by_cases h2 : x = 0 ∧ m = 0
  · obtain ⟨rfl, rfl⟩ := h2
    have := packed_32 s 0 0 hs (by omega) (by omega)
    rw [if_pos (by simp)] at this ⊢
    simpa using this
  rw [if_neg h2]
  by_cases h3 : x = 0
  · subst h3
    rw [if_pos rfl]
    have hm0 : m ≠ 0 := by omega
    obtain ⟨k, hk, hk1, hk2⟩ : ∃ k, k < 23 ∧ 2 ^ k ≤ m ∧ m < 2 ^ (k + 1) := by
      refine ⟨m.log2, ?_, Nat.log2_self_le hm0, Nat.lt_log2_self⟩
      exact (Nat.log2_lt hm0).2 (by simpa using hm)
    rw [log2_of hk1 hk2, show 53 - (k + 1) = 52 - k by omega]
    obtain ⟨hq1, hq2⟩ := part_bounds (by omega) hk1 hk2
    have hm' : m * 2 ^ (52 - k) - 2 ^ 52 < 2 ^ 52 := by omega
    rw [packed_32 s (873 + (k + 1)) (m * 2 ^ (52 - k) - 2 ^ 52) hs (by omega) hm']
    rw [if_neg (by omega), if_neg (by omega), if_neg (by omega), if_neg (by omega), if_neg (by omega)]
    rw [show 926 - (873 + (k + 1)) = 52 - k by omega, show 2 ^ 52 + (m * 2 ^ (52 - k) - 2 ^ 52) = m * 2 ^ (52 - k) by omega,
      Nat.mul_mod_left, if_pos rfl, Nat.mul_div_cancel _ (Nat.two_pow_pos _)]
    simp
  · rw [if_neg h3]
    have hm' : m * 2 ^ 29 < 2 ^ 52 := by omega
    rw [packed_32 s (x + 1023 - 127) (m * 2 ^ 29) hs (by omega) hm']
    rw [if_neg (by omega), if_neg (by omega), if_neg (by omega), if_neg (by omega), if_pos (by omega), Nat.mul_mod_left, if_pos rfl, Nat.mul_div_cancel _ (Nat.two_pow_pos _)]
    rw [show x + 1023 - 127 + 127 - 1023 = x by omega]
/-- what is packed into 32 bits is the same number -/
theorem widened_packed_32 (b h : Nat) (hb : b < 2 ^ 64) (hp : packed 8 23 b = some h) : widened 8 23 h = b ∧ ∃ s x m, s < 2 ∧ x < 256 ∧ m < 8388608 ∧ h = s * 2147483648 + x * 8388608 + m ∧ ¬ (x = 255 ∧ m ≠ 0) := by
  obtain ⟨s, x, m, hs, hx, hm, rfl⟩ := d4 b hb
  rw [packed_32 s x m hs hx hm] at hp
  by_cases h1 : x = 0 ∧ m = 0
  · rw [if_pos h1] at hp
    obtain ⟨rfl, rfl⟩ := h1
    simp only [Option.some.injEq] at hp
    subst hp
    refine ⟨?_, s, 0, 0, hs, by omega, by omega, by omega, by omega⟩
    have := widened_32 s 0 0 hs (by omega) (by omega)
    rw [if_neg (by omega), if_pos (by simp)] at this
    simpa using this
  rw [if_neg h1] at hp
  by_cases h2 : x = 2047
  · rw [if_pos h2] at hp
    by_cases h3 : m = 0
    · rw [if_pos h3] at hp
      simp only [Option.some.injEq] at hp
      subst hp h2 h3
      refine ⟨?_, s, 255, 0, hs, by omega, by omega, by omega, by omega⟩
      have := widened_32 s 255 0 hs (by omega) (by omega)
      rw [if_pos rfl, Nat.zero_mul, Nat.add_zero, Nat.add_zero] at this
      rw [Nat.add_zero]; exact this
    · rw [if_neg h3] at hp; cases hp
  rw [if_neg h2] at hp
  by_cases h3 : x = 0
  · rw [if_pos h3] at hp; cases hp
  rw [if_neg h3] at hp
  by_cases h4 : 1023 + 127 < x
  · rw [if_pos h4] at hp; cases hp
  rw [if_neg h4] at hp
  by_cases h5 : 1024 - 127 ≤ x
  · rw [if_pos h5] at hp
    by_cases h6 : m % 2 ^ 29 = 0
    · rw [if_pos h6] at hp
      simp only [Option.some.injEq] at hp
      have hdiv : m / 2 ^ 29 * 2 ^ 29 = m := Nat.div_mul_cancel (Nat.dvd_of_mod_eq_zero h6)
      obtain ⟨part, hpart⟩ : ∃ part, part = m / 2 ^ 29 := ⟨_, rfl⟩
      rw [← hpart] at hdiv hp
      clear hpart
      have hpl : part < 8388608 := by omega
      subst hp
      refine ⟨?_, s, x + 127 - 1023, part, hs, by omega, hpl, rfl, by omega⟩
      rw [widened_32 s (x + 127 - 1023) part hs (by omega) hpl, if_neg (by omega), if_neg (by omega), if_neg (by omega), hdiv, show x + 127 - 1023 + 1023 - 127 = x by omega]
    · rw [if_neg h6] at hp; cases hp
  rw [if_neg h5] at hp
  by_cases h6 : (2 ^ 52 + m) % 2 ^ (926 - x) = 0
  · rw [if_pos h6] at hp
    simp only [Option.some.injEq] at hp
    obtain ⟨M, hM⟩ : ∃ M, M = 2 ^ 52 + m := ⟨_, rfl⟩
    rw [← hM] at h6 hp
    have ht : 926 - x ≤ 52 := by
      apply Classical.byContradiction; intro c
      have : 2 ^ 53 ≤ 2 ^ (926 - x) := Nat.pow_le_pow_right (by omega) (by omega)
      rw [Nat.mod_eq_of_lt (by omega)] at h6; omega
    obtain ⟨k, hk, hkp⟩ : ∃ k, 926 - x = 52 - k ∧ k < 23 := ⟨52 - (926 - x), by omega, by omega⟩
    rw [hk] at h6 hp
    have hdiv : M / 2 ^ (52 - k) * 2 ^ (52 - k) = M := Nat.div_mul_cancel (Nat.dvd_of_mod_eq_zero h6)
    obtain ⟨part, hpart⟩ : ∃ part, part = M / 2 ^ (52 - k) := ⟨_, rfl⟩
    rw [← hpart] at hdiv hp
    have e1 : 2 ^ k * 2 ^ (52 - k) = 2 ^ 52 := by rw [← Nat.pow_add]; congr 1; omega
    have e2 : 2 ^ (k + 1) * 2 ^ (52 - k) = 2 ^ 53 := by rw [← Nat.pow_add]; congr 1; omega
    have hk1 : 2 ^ k ≤ part := by
      apply Classical.byContradiction; intro c
      have : part * 2 ^ (52 - k) < 2 ^ k * 2 ^ (52 - k) := Nat.mul_lt_mul_of_pos_right (by omega) (Nat.two_pow_pos _)
      omega
    have hk2 : part < 2 ^ (k + 1) := by
      apply Classical.byContradiction; intro c
      have : 2 ^ (k + 1) * 2 ^ (52 - k) ≤ part * 2 ^ (52 - k) := Nat.mul_le_mul_right _ (by omega)
      omega
    have hk3 : (2 : Nat) ^ (k + 1) ≤ 2 ^ 23 := Nat.pow_le_pow_right (by omega) (by omega)
    have hk4 : 1 ≤ (2 : Nat) ^ k := Nat.two_pow_pos _
    have hpl : part < 8388608 := by
      have e : (2 : Nat) ^ 23 = 8388608 := by decide
      omega
    subst hp
    refine ⟨?_, s, 0, part, hs, by omega, hpl, by omega, by omega⟩
    have := widened_32 s 0 part hs (by omega) hpl
    rw [if_neg (by omega), if_neg (by omega), if_pos rfl, log2_of hk1 hk2, show 53 - (k + 1) = 52 - k by omega, hdiv, show 873 + (k + 1) = x by omega, show M - 2 ^ 52 = m by omega] at this
    simpa using this
  · rw [if_neg h6] at hp; cases hp

def nanBits : Nat := 9221120237041090560
def noneB (b : Nat) : Bool := decide (18437736874454810624 < b * 2 % 18446744073709551616)
def floatedB (b : Nat) : Bytes :=
  if b = nanBits then [249, 126, 0]
  else match packed 5 10 b with
    | some h => 249 :: be h 2
    | none => match packed 8 23 b with
      | some f => 250 :: be f 4
      | none => 251 :: be b 8
def widenB (info n : Nat) : Nat := if info = 25 then widened 5 10 n else if info = 26 then widened 8 23 n else n

theorem noneB_nan (s m : Nat) (_hs : s < 2) (hm : m < 2 ^ 52) (h0 : m ≠ 0) : noneB (s * 2 ^ 63 + 2047 * 2 ^ 52 + m) = true := by
  simp only [noneB, decide_eq_true_eq]; omega
theorem widened_nan_16 : widened 5 10 32256 = nanBits := by decide
theorem packed_nan_16 : packed 5 10 nanBits = none := by decide
theorem packed_nan_32 : packed 8 23 nanBits = none := by decide
theorem nan_eq_16 {s m : Nat} (_hs : s < 2) (hm : m < 1024) (h : s * 2 ^ 63 + 2047 * 2 ^ 52 + m * 2 ^ 42 = nanBits) : s = 0 ∧ m = 512 := by
  unfold nanBits at h; omega
theorem mul42 {m : Nat} (h : m < 1024) : m * 2 ^ 42 < 2 ^ 52 := by omega
theorem mul29 {m : Nat} (h : m < 8388608) : m * 2 ^ 29 < 2 ^ 52 := by omega
theorem lt64 (s x m : Nat) (hs : s < 2) (hx : x < 2048) (hm : m < 2 ^ 52) : s * 2 ^ 63 + x * 2 ^ 52 + m < 2 ^ 64 := by omega
theorem widened_lt_16 (n : Nat) (hn : n < 65536) : widened 5 10 n < 2 ^ 64 := by
  obtain ⟨s, x, m, hs, hx, hm, rfl⟩ := f4_16 n hn
  rw [widened_16 s x m hs hx hm]
  by_cases h1 : x = 31
  · rw [if_pos h1]; exact lt64 s 2047 _ hs (by decide) (mul42 hm)
  rw [if_neg h1]
  by_cases h2 : x = 0 ∧ m = 0
  · rw [if_pos h2]; have := lt64 s 0 0 hs (by decide) (by decide); rwa [Nat.zero_mul, Nat.add_zero] at this
  rw [if_neg h2]
  by_cases h3 : x = 0
  · rw [if_pos h3]
    have hm0 : m ≠ 0 := by omega
    have h1 := Nat.log2_self_le hm0
    have h2 : m < 2 ^ (m.log2 + 1) := Nat.lt_log2_self
    have h3 : m.log2 < 10 := (Nat.log2_lt hm0).2 (by simpa using hm)
    obtain ⟨q1, q2⟩ := part_bounds (by omega) h1 h2
    rw [show 53 - (m.log2 + 1) = 52 - m.log2 by omega]
    clear hn
    exact lt64 s _ _ hs (by omega) (by omega)
  · rw [if_neg h3]; exact lt64 s _ _ hs (by omega) (mul42 hm)
theorem widened_lt_32 (n : Nat) (hn : n < 4294967296) : widened 8 23 n < 2 ^ 64 := by
  obtain ⟨s, x, m, hs, hx, hm, rfl⟩ := f4_32 n hn
  rw [widened_32 s x m hs hx hm]
  by_cases h1 : x = 255
  · rw [if_pos h1]; exact lt64 s 2047 _ hs (by decide) (mul29 hm)
  rw [if_neg h1]
  by_cases h2 : x = 0 ∧ m = 0
  · rw [if_pos h2]; have := lt64 s 0 0 hs (by decide) (by decide); rwa [Nat.zero_mul, Nat.add_zero] at this
  rw [if_neg h2]
  by_cases h3 : x = 0
  · rw [if_pos h3]
    have hm0 : m ≠ 0 := by omega
    have h1 := Nat.log2_self_le hm0
    have h2 : m < 2 ^ (m.log2 + 1) := Nat.lt_log2_self
    have h3 : m.log2 < 23 := (Nat.log2_lt hm0).2 (by simpa using hm)
    obtain ⟨q1, q2⟩ := part_bounds (by omega) h1 h2
    rw [show 53 - (m.log2 + 1) = 52 - m.log2 by omega]
    clear hn
    exact lt64 s _ _ hs (by omega) (by omega)
  · rw [if_neg h3]; exact lt64 s _ _ hs (by omega) (mul29 hm)

def codec (utf8 : Bytes → Bool) : Codec := { floated := floatedB, widen := widenB, utf8 := utf8, none := noneB, nan := nanBits }

theorem widenB_25 (n : Nat) : widenB 25 n = widened 5 10 n := by unfold widenB; rw [if_pos rfl]
theorem widenB_26 (n : Nat) : widenB 26 n = widened 8 23 n := by unfold widenB; rw [if_neg (by decide), if_pos rfl]
theorem widenB_27 (n : Nat) : widenB 27 n = n := by unfold widenB; rw [if_neg (by decide), if_neg (by decide)]
theorem codec_shape (b : Nat) (hb : b < 2 ^ 64) : ∃ info h, 25 ≤ info ∧ info ≤ 27 ∧ h < 256 ^ 2 ^ (info - 24) ∧ floatedB b = UInt8.ofNat (224 + info) :: be h (2 ^ (info - 24)) ∧ widenB info h = b := by
  unfold floatedB
  by_cases hn : b = nanBits
  · rw [if_pos hn]
    exact ⟨25, 32256, by omega, by omega, by decide, by decide, by rw [hn, widenB_25]; exact widened_nan_16⟩
  rw [if_neg hn]
  cases h16 : packed 5 10 b with
  | some h =>
    obtain ⟨e, s, x, m, hs, hx, hm, eh, _⟩ := widened_packed_16 b h hb h16
    exact ⟨25, h, by omega, by omega, by simp only [Nat.reduceSub, Nat.reducePow]; omega, rfl, by rw [widenB_25]; exact e⟩
  | none =>
    simp only
    cases h32 : packed 8 23 b with
    | some h =>
      obtain ⟨e, s, x, m, hs, hx, hm, eh, _⟩ := widened_packed_32 b h hb h32
      exact ⟨26, h, by omega, by omega, by simp only [Nat.reduceSub, Nat.reducePow]; omega, rfl, by rw [widenB_26]; exact e⟩
    | none => exact ⟨27, b, by omega, by omega, by simp only [Nat.reduceSub, Nat.reducePow]; simpa using hb, rfl, widenB_27 b⟩

theorem codec_back (info n : Nat) (h25 : 25 ≤ info) (h27 : info ≤ 27) (hn : n < 256 ^ 2 ^ (info - 24)) (hbad : ¬ (noneB (widenB info n) = true ∧ widenB info n ≠ nanBits))
    (hlen : (floatedB (widenB info n)).length = 1 + 2 ^ (info - 24)) : floatedB (widenB info n) = UInt8.ofNat (224 + info) :: be n (2 ^ (info - 24)) := by
  rcases (by omega : info = 25 ∨ info = 26 ∨ info = 27) with e | e | e
  · subst e
    have hw := widenB_25 n
    rw [hw] at hbad hlen ⊢
    simp only [Nat.reduceSub, Nat.reducePow] at hn
    obtain ⟨s, x, m, hs, hx, hm, e⟩ := f4_16 n hn
    by_cases hnan : x = 31 ∧ m ≠ 0
    · obtain ⟨rfl, hm0⟩ := hnan
      have ew := widened_16 s 31 m hs hx hm
      rw [if_pos rfl, ← e] at ew
      have hnone := noneB_nan s (m * 2 ^ 42) hs (by omega) (by omega)
      rw [← ew] at hnone
      have hb : widened 5 10 n = nanBits := Classical.byContradiction fun c => hbad ⟨hnone, c⟩
      rw [hb] at ew ⊢
      obtain ⟨rfl, rfl⟩ := nan_eq_16 hs hm ew.symm
      rw [e]; decide
    · have hp := packed_widened_16 s x m hs hx hm hnan
      rw [← e] at hp
      have hne : widened 5 10 n ≠ nanBits := by intro c; rw [c, packed_nan_16] at hp; cases hp
      unfold floatedB
      rw [if_neg hne, hp]; rfl
  · subst e
    have hw := widenB_26 n
    rw [hw] at hbad hlen ⊢
    simp only [Nat.reduceSub, Nat.reducePow] at hn
    obtain ⟨s, x, m, hs, hx, hm, e⟩ := f4_32 n hn
    have hne : widened 8 23 n ≠ nanBits := by
      intro c; rw [c] at hlen; simp [floatedB] at hlen
    by_cases hnan : x = 255 ∧ m ≠ 0
    · obtain ⟨rfl, hm0⟩ := hnan
      have ew := widened_32 s 255 m hs hx hm
      rw [if_pos rfl, ← e] at ew
      have hnone := noneB_nan s (m * 2 ^ 29) hs (by omega) (by omega)
      rw [← ew] at hnone
      exact (hbad ⟨hnone, hne⟩).elim
    · have hp := packed_widened_32 s x m hs hx hm hnan
      rw [← e] at hp
      unfold floatedB at hlen ⊢
      rw [if_neg hne] at hlen ⊢
      cases h16 : packed 5 10 (widened 8 23 n) with
      | some h => rw [h16] at hlen; simp [be_length] at hlen
      | none => rw [hp]; rfl
  · subst e
    have hw := widenB_27 n
    rw [hw] at hbad hlen ⊢
    unfold floatedB at hlen ⊢
    by_cases hne : n = nanBits
    · rw [if_pos hne] at hlen; simp at hlen
    rw [if_neg hne] at hlen ⊢
    cases h16 : packed 5 10 n with
    | some h => rw [h16] at hlen; simp [be_length] at hlen
    | none =>
      rw [h16] at hlen
      simp only at hlen ⊢
      cases h32 : packed 8 23 n with
      | some h => rw [h32] at hlen; simp [be_length] at hlen
      | none => rfl

theorem codec_small (info n : Nat) (h25 : 25 ≤ info) (h27 : info ≤ 27) (hn : n < 256 ^ 2 ^ (info - 24)) : widenB info n < 2 ^ 64 := by
  rcases (by omega : info = 25 ∨ info = 26 ∨ info = 27) with e | e | e
  · subst e; rw [widenB_25]; exact widened_lt_16 n (by simpa using hn)
  · subst e; rw [widenB_26]; exact widened_lt_32 n (by simpa using hn)
  · subst e; rw [widenB_27]; simpa using hn

theorem codec_ok (utf8 : Bytes → Bool) : (codec utf8).Ok := ⟨fun b hb _ => codec_shape b hb, codec_back, codec_small⟩

variable {C : Codec} {whole : List Item → Nat}
/-! Numbers alone -/
def Calm (whole : List Item → Nat) : Prop := ∀ l : List Item, (∀ x ∈ l, x.kind ≠ 5 ∧ x.kind ≠ 6) → whole l = 0
theorem scanI_one {x : Item} (h : sound C x 1 = 0) (hi : inside x = 0) : scanI C [x] [1] = (0, []) := by
  unfold scanI
  simp only [norm, List.length_nil, Nat.zero_add, h, if_true, hi]
  simp [scanI, norm]
theorem enc_one (calm : Calm whole) {x : Item} (h : sound C x 1 = 0) (hi : inside x = 0) (hk : x.kind ≠ 5 ∧ x.kind ≠ 6) (hl : (written C x).length ≤ 4096) : enc C whole [x] = (written C x, 0) := by
  have := enc_mk (C := C) (whole := whole) (l := [x]) (by simp) (scanI_one h hi) (calm _ (by simpa using hk)) (by simpa [all] using hl)
  simpa [all] using this
theorem head_length (k n : Nat) : (head k n).length ≤ 9 := by
  unfold head
  split
  · simp
  · rw [List.length_cons, be_length]
    unfold sizeOf'
    split
    · simp
    split
    · simp
    split
    · simp
    · simp
theorem sound_num {k n : Nat} (hk : k ≤ 1) (d : Nat) (hd : d ≤ 64) : sound C ⟨k, n, []⟩ d = 0 :=
  sound_mk (by simp only; omega) (by simp only; omega) (by simp only; omega) (fun _ => rfl) (by simp only; omega) (by simp only; omega) (by simp only; omega) hd
theorem inside_num {k n : Nat} (hk : k ≤ 1) : inside ⟨k, n, []⟩ = 0 := by
  unfold inside; rw [if_neg (by simp only; omega), if_neg (by simp only; omega), if_neg (by simp only; omega)]
theorem written_num {k n : Nat} (hk : k ≤ 1) : written C ⟨k, n, []⟩ = head k n := by
  unfold written; rw [if_neg (by simp only; omega), if_neg (by simp only; omega), if_neg (by simp only; omega)]; simp
theorem enc_num (calm : Calm whole) {k n : Nat} (hk : k ≤ 1) : enc C whole [⟨k, n, []⟩] = (head k n, 0) := by
  rw [enc_one calm (sound_num hk 1 (by omega)) (inside_num hk) (by simp only; omega), written_num hk]
  rw [written_num hk]; have := head_length k n; omega
theorem dec_num (ok : C.Ok) (calm : Calm whole) {k n : Nat} (hk : k ≤ 1) (hn : n < 2 ^ 64) : dec C whole (head k n) = ([⟨k, n, []⟩], 0) :=
  dec_enc ok (by intro x hx; simp at hx; subst hx; exact ⟨hn, by simp⟩) (enc_num calm hk)
theorem dec_num_at (ok : C.Ok) (calm : Calm whole) {k n i : Nat} (hk : k ≤ 1) (hi : i ≤ 3) (hn : n < 256 ^ 2 ^ i) (h24 : 24 ≤ n) (h : 1 ≤ i → 256 ^ (2 ^ i / 2) ≤ n) :
    dec C whole (UInt8.ofNat (32 * k + (24 + i)) :: be n (2 ^ i)) = ([⟨k, n, []⟩], 0) := by
  have hh : head k n = UInt8.ofNat (32 * k + (24 + i)) :: be n (2 ^ i) := by
    unfold head; rw [if_neg (by omega), sizeOf'_eq hi hn h]
  have hn64 : n < 2 ^ 64 := by
    have : 256 ^ 2 ^ i ≤ 256 ^ 2 ^ 3 := Nat.pow_le_pow_right (by omega) (Nat.pow_le_pow_right (by omega) hi)
    have e : 256 ^ 2 ^ 3 = 2 ^ 64 := by decide
    omega
  rw [← hh]; exact dec_num ok calm hk hn64
theorem dec_num_long {k n i : Nat} (hk : k ≤ 1) (hi : i ≤ 3) (hn : n < 256 ^ 2 ^ i) (h : n < 24 ∨ (1 ≤ i ∧ n < 256 ^ (2 ^ i / 2))) :
    dec C whole (UInt8.ofNat (32 * k + (24 + i)) :: be n (2 ^ i)) = ([], 7) := by
  have hb : (UInt8.ofNat (32 * k + (24 + i))).toNat = 32 * k + (24 + i) := byte_toNat _ (by omega)
  have hr : readItem C (UInt8.ofNat (32 * k + (24 + i)) :: be n (2 ^ i)) = .error 7 := by
    simp only [readItem, hb]
    rw [show (32 * k + (24 + i)) / 32 = k by omega, show (32 * k + (24 + i)) % 32 = 24 + i by omega, if_neg (by omega)]
    have : readNum k (24 + i) (be n (2 ^ i)) = .error 7 := by
      unfold readNum
      rw [if_neg (by omega)]
      have e : 24 + i - 24 = i := by omega
      simp only [e]
      rw [if_neg (by simp [be_length]), List.take_of_length_le (by simp [be_length]), num_be, Nat.mod_eq_of_lt hn, if_pos]
      refine ⟨by omega, ?_⟩
      rcases h with h | ⟨h1, h2⟩
      · exact .inl h
      · exact .inr ⟨Nat.one_lt_two_pow (by omega), h2⟩
    rw [this]
  have hs : scanB C 600 (UInt8.ofNat (32 * k + (24 + i)) :: be n (2 ^ i)) [1] = (7, [], UInt8.ofNat (32 * k + (24 + i)) :: be n (2 ^ i)) := by
    unfold scanB
    simp only [norm]
    rw [if_neg (by simp), if_neg (by simp), hr]
  unfold dec
  have hp : 2 ^ i ≤ 2 ^ 3 := Nat.pow_le_pow_right (by omega) hi
  rw [if_neg (by simp [be_length]; omega), hs]
  simp

/-! What the loop over the four sizes has found -/
def idx (m : Nat) : Nat := (sizeOf' m).1 - 24
def wantAt (k m j : Nat) : Bytes := if m < 24 then [UInt8.ofNat (32 * k + m)] else if idx m < j then UInt8.ofNat (32 * k + (24 + idx m)) :: be m (2 ^ idx m) else []
theorem idx_spec (m : Nat) (hm : m < 2 ^ 64) : idx m ≤ 3 ∧ m < 256 ^ 2 ^ idx m ∧ (1 ≤ idx m → 256 ^ (2 ^ idx m / 2) ≤ m) := by
  unfold idx sizeOf'
  by_cases h1 : m < 256
  · simp [h1]
  by_cases h2 : m < 65536
  · simp [h1, h2]; omega
  by_cases h3 : m < 4294967296
  · simp [h1, h2, h3]; omega
  · simp [h1, h2, h3]; omega
theorem wantAt_end (k m : Nat) (hm : m < 2 ^ 64) : wantAt k m 4 = head k m := by
  obtain ⟨h1, h2, h3⟩ := idx_spec m hm
  unfold wantAt head
  split
  · rfl
  · rw [if_pos (by omega), sizeOf'_eq h1 h2 h3]
theorem wantAt_start (k m : Nat) (h : 24 ≤ m) : wantAt k m 0 = [] := by
  unfold wantAt; rw [if_neg (by omega), if_neg (by omega)]
theorem wantAt_small (k m j : Nat) (h : m < 24) : wantAt k m j = [UInt8.ofNat (32 * k + m)] := by
  unfold wantAt; rw [if_pos h]
/-- it does not fit: the number is greater -/
theorem wantAt_miss (k m j : Nat) (hm : m < 2 ^ 64) (h : 256 ^ 2 ^ j ≤ m) : wantAt k m (j + 1) = wantAt k m j := by
  obtain ⟨h1, h2, h3⟩ := idx_spec m hm
  have hj : j < idx m := by
    apply Classical.byContradiction; intro c
    have : 256 ^ 2 ^ idx m ≤ 256 ^ 2 ^ j := Nat.pow_le_pow_right (by omega) (Nat.pow_le_pow_right (by omega) (by omega))
    omega
  unfold wantAt
  split
  · rfl
  · rw [if_neg (by omega), if_neg (by omega)]
/-- it fits, and nothing was found yet -/
theorem wantAt_hit (k m j : Nat) (hm : m < 2 ^ 64) (h : m < 256 ^ 2 ^ j) (hj : j ≤ 3) (he : wantAt k m j = []) : 24 ≤ m ∧ (1 ≤ j → 256 ^ (2 ^ j / 2) ≤ m) ∧ wantAt k m (j + 1) = UInt8.ofNat (32 * k + (24 + j)) :: be m (2 ^ j) := by
  obtain ⟨h1, h2, h3⟩ := idx_spec m hm
  unfold wantAt at he
  split at he
  · simp at he
  split at he
  · simp at he
  rename_i c1 c2
  have hij : idx m = j := by
    apply Classical.byContradiction; intro c
    have hlt : j < idx m := by omega
    have h4 := h3 (by omega)
    have : 256 ^ 2 ^ j ≤ 256 ^ (2 ^ idx m / 2) := by
      apply Nat.pow_le_pow_right (by omega)
      obtain ⟨d, hd⟩ : ∃ d, idx m = d + 1 := ⟨idx m - 1, by omega⟩
      rw [hd, Nat.pow_succ, Nat.mul_div_cancel _ (by omega)]
      exact Nat.pow_le_pow_right (by omega) (by omega)
    omega
  subst hij
  refine ⟨by omega, h3, ?_⟩
  unfold wantAt
  rw [if_neg c1, if_pos (by omega)]
/-- it fits, and something was found -/
theorem wantAt_past (k m j : Nat) (he : wantAt k m j ≠ []) (hm : m < 2 ^ 64) : (m < 24 ∨ (1 ≤ j ∧ m < 256 ^ (2 ^ j / 2))) ∧ wantAt k m (j + 1) = wantAt k m j := by
  obtain ⟨h1, h2, h3⟩ := idx_spec m hm
  unfold wantAt at he ⊢
  by_cases c1 : m < 24
  · rw [if_pos c1, if_pos c1]; exact ⟨.inl c1, rfl⟩
  · rw [if_neg c1] at he
    by_cases c2 : idx m < j
    · rw [if_neg c1, if_neg c1, if_pos (by omega), if_pos c2]
      refine ⟨.inr ⟨by omega, ?_⟩, rfl⟩
      have : 256 ^ 2 ^ idx m ≤ 256 ^ (2 ^ j / 2) := by
        apply Nat.pow_le_pow_right (by omega)
        obtain ⟨d, hd⟩ : ∃ d, j = d + 1 := ⟨j - 1, by omega⟩
        rw [hd, Nat.pow_succ, Nat.mul_div_cancel _ (by omega)]
        exact Nat.pow_le_pow_right (by omega) (by omega)
      omega
    · rw [if_neg c2] at he; exact (he rfl).elim

/-! Numbers as an odd number times a power of two -/
theorem odd_pow_dvd {o a c : Nat} (ho : o % 2 = 1) : (o * 2 ^ a) % 2 ^ c = 0 ↔ c ≤ a := by
  constructor
  · intro h
    apply Classical.byContradiction; intro hc
    have hd : 2 ^ (a + 1) ∣ o * 2 ^ a := Nat.dvd_trans (Nat.pow_dvd_pow 2 (by omega)) (Nat.dvd_of_mod_eq_zero h)
    rw [Nat.pow_succ, Nat.mul_comm (2 ^ a) 2] at hd
    have := Nat.dvd_of_mul_dvd_mul_right (Nat.two_pow_pos a) hd
    omega
  · intro h
    have : 2 ^ c ∣ o * 2 ^ a := Nat.dvd_trans (Nat.pow_dvd_pow 2 h) (Nat.dvd_mul_left _ _)
    exact Nat.mod_eq_zero_of_dvd this
/-- which numbers have 16 bits: odd part o of `bits` bits, times 2 to the y; q = o * 2^a is the 53 bits, E the exponent -/
theorem packed_16_iff {s E m o a bits : Nat} {y : Int} (hs : s < 2) (hm : m < 2 ^ 52) (ho : o % 2 = 1) (hq : 2 ^ 52 + m = o * 2 ^ a) (hab : a + bits = 53) (hE : (E : Int) = y + bits + 1022) (hE1 : 1 ≤ E) (hE2 : E ≤ 2046) :
    (packed 5 10 (s * 2 ^ 63 + E * 2 ^ 52 + m)).isSome = true ↔ (bits ≤ 11 ∧ -24 ≤ y ∧ y + bits ≤ 16) := by
  rw [packed_16 s E m hs (by omega) hm, if_neg (by omega), if_neg (by omega), if_neg (by omega)]
  by_cases h4 : 1023 + 15 < E
  · rw [if_pos h4]; simp; omega
  rw [if_neg h4]
  by_cases h5 : 1024 - 15 ≤ E
  · rw [if_pos h5]
    have e : m % 2 ^ 42 = 0 ↔ 42 ≤ a := by
      rw [← odd_pow_dvd (c := 42) ho, ← hq]
      constructor <;> intro h <;> omega
    by_cases h6 : m % 2 ^ 42 = 0
    · rw [if_pos h6]; have := e.1 h6; simp; omega
    · rw [if_neg h6]; have := mt e.2 h6; simp; omega
  · rw [if_neg h5]
    have e := odd_pow_dvd (a := a) (c := 1051 - E) ho
    rw [← hq] at e
    by_cases h6 : (2 ^ 52 + m) % 2 ^ (1051 - E) = 0
    · rw [if_pos h6]; have := e.1 h6; simp; omega
    · rw [if_neg h6]; have := mt e.2 h6; simp; omega

/-! A number m times 2 to the x, and its bits -/
def scaledN (m : Nat) (x : Int) : Nat := (x + 1023 + m.log2).toNat * 4503599627370496 + (m * 2 ^ (52 - m.log2) - 4503599627370496)
theorem log2_odd {o z : Nat} (ho : 1 ≤ o) : (o * 2 ^ z).log2 = o.log2 + z := by
  have h1 := Nat.log2_self_le (n := o) (by omega)
  have h2 : o < 2 ^ (o.log2 + 1) := Nat.lt_log2_self
  apply log2_of
  · rw [Nat.pow_add]; exact Nat.mul_le_mul_right _ h1
  · rw [show o.log2 + z + 1 = (o.log2 + 1) + z by omega, Nat.pow_add (m := o.log2 + 1)]; exact Nat.mul_lt_mul_of_pos_right h2 (Nat.two_pow_pos _)
/-- its three parts -/
theorem scaled_parts {m : Nat} {x : Int} (hm : 1 ≤ m) (hm2 : m < 16777216) (hx : -149 ≤ x) (hx2 : x ≤ 104) :
    ∃ E q : Nat, (E : Int) = x + 1023 + m.log2 ∧ 1 ≤ E ∧ E ≤ 2046 ∧ q < 2 ^ 52 ∧ 2 ^ 52 + q = m * 2 ^ (52 - m.log2) ∧ scaledN m x = E * 2 ^ 52 + q := by
  have hL : m.log2 < 24 := (Nat.log2_lt (by omega)).2 (by simpa using hm2)
  obtain ⟨h1, h2⟩ := part_bounds (part := m) (k := m.log2) (by omega) (Nat.log2_self_le (by omega)) Nat.lt_log2_self
  have hE : ((x + 1023 + m.log2).toNat : Int) = x + 1023 + m.log2 := by omega
  exact ⟨(x + 1023 + m.log2).toNat, m * 2 ^ (52 - m.log2) - 2 ^ 52, hE, by omega, by omega, Nat.sub_lt_left_of_lt_add h1 (by rw [show (2 : Nat) ^ 52 + 2 ^ 52 = 2 ^ 53 by decide]; exact h2), Nat.add_sub_of_le h1, rfl⟩
/-- is it a number of 16 bits? -/
theorem scaled_16 {s m o z : Nat} {x : Int} (hs : s < 2) (hm : 1 ≤ m) (hm2 : m < 16777216) (hx : -149 ≤ x) (hx2 : x ≤ 104) (ho : o % 2 = 1) (hoz : m = o * 2 ^ z) :
    (packed 5 10 (s * 2 ^ 63 + scaledN m x)).isSome = true ↔ (o.log2 + 1 ≤ 11 ∧ -24 ≤ x + z ∧ x + z + (o.log2 + 1 : Nat) ≤ 16) := by
  obtain ⟨E, q, hE, hE1, hE2, hq, hqm, hsc⟩ := scaled_parts hm hm2 hx hx2
  have hl : m.log2 = o.log2 + z := by rw [hoz]; exact log2_odd (by omega)
  have hL : m.log2 < 24 := (Nat.log2_lt (by omega)).2 (by simpa using hm2)
  rw [hsc, ← Nat.add_assoc]
  refine packed_16_iff (a := z + (52 - m.log2)) (bits := o.log2 + 1) (y := x + z) hs hq ho ?_ (by omega) (by omega) hE1 hE2
  rw [hqm, Nat.pow_add, ← Nat.mul_assoc, ← hoz]
/-- a number that is finite and not 0 -/
theorem scaled_sound {s m : Nat} {x : Int} (hs : s < 2) (hm : 1 ≤ m) (hm2 : m < 16777216) (hx : -149 ≤ x) (hx2 : x ≤ 104) :
    s * 2 ^ 63 + scaledN m x < 2 ^ 64 ∧ noneB (s * 2 ^ 63 + scaledN m x) = false ∧ s * 2 ^ 63 + scaledN m x ≠ nanBits := by
  obtain ⟨E, q, hE, hE1, hE2, hq, hqm, hsc⟩ := scaled_parts hm hm2 hx hx2
  rw [hsc, ← Nat.add_assoc]
  refine ⟨lt64 s E q hs (by omega) hq, ?_, ?_⟩
  · simp only [noneB, decide_eq_false_iff_not]; omega
  · intro c
    have h2 := d2 s E q hs (by omega) hq
    rw [c] at h2
    have : nanBits / 2 ^ 52 % 2048 = 2047 := by decide
    omega
/-- the 32 bits' own number -/
theorem scaled_32 {s e part : Nat} (hs : s < 2) (he : e < 255) (hp : part < 8388608) (h0 : ¬ (e = 0 ∧ part = 0)) :
    s * 2 ^ 63 + scaledN (if e = 0 then part else part + 8388608) (if e = 0 then -149 else (e : Int) - 150) = widened 8 23 (s * 2147483648 + e * 8388608 + part) := by
  by_cases h : e = 0
  · rw [if_pos h, if_pos h, widened_32 s e part hs (by omega) hp, if_neg (by omega), if_neg h0, if_pos h]
    have hp0 : part ≠ 0 := by omega
    have hL : part.log2 < 23 := (Nat.log2_lt hp0).2 (by simpa using hp)
    unfold scaledN
    rw [show 53 - (part.log2 + 1) = 52 - part.log2 by omega]
    have : ((-149 : Int) + 1023 + (part.log2 : Nat)).toNat = 873 + (part.log2 + 1) := by omega
    rw [this]
    rw [Nat.add_assoc]
  · rw [if_neg h, if_neg h, widened_32 s e part hs (by omega) hp, if_neg (by omega), if_neg h0, if_neg h]
    have hL : (part + 8388608).log2 = 23 := log2_of (by omega) (by omega)
    unfold scaledN
    rw [hL]
    have : ((e : Int) - 150 + 1023 + (23 : Nat)).toNat = e + 1023 - 127 := by omega
    rw [this, Nat.add_assoc]
    have : (part + 8388608) * 2 ^ (52 - 23) - 4503599627370496 = part * 2 ^ 29 := by omega
    rw [this]
theorem floatedB_16 {b : Nat} (hn : b ≠ nanBits) (h : (packed 5 10 b).isSome = true) : ∃ k, floatedB b = 249 :: be k 2 := by
  obtain ⟨k, hk⟩ := Option.isSome_iff_exists.1 h
  exact ⟨k, by unfold floatedB; rw [if_neg hn, hk]⟩
theorem floatedB_32 {s e part : Nat} (hs : s < 2) (he : e < 255) (hp : part < 8388608) (hn : widened 8 23 (s * 2147483648 + e * 8388608 + part) ≠ nanBits)
    (h : ¬ (packed 5 10 (widened 8 23 (s * 2147483648 + e * 8388608 + part))).isSome = true) : floatedB (widened 8 23 (s * 2147483648 + e * 8388608 + part)) = 250 :: be (s * 2147483648 + e * 8388608 + part) 4 := by
  have h1 : packed 5 10 (widened 8 23 (s * 2147483648 + e * 8388608 + part)) = none := by
    cases hh : packed 5 10 (widened 8 23 (s * 2147483648 + e * 8388608 + part)) with
    | none => rfl
    | some v => rw [hh] at h; simp at h
  unfold floatedB
  rw [if_neg hn, h1, packed_widened_32 s e part hs (by omega) hp (by omega)]
/-- a float alone -/
theorem enc_float {utf8 : Bytes → Bool} {whole : List Item → Nat} (calm : Calm whole) {b : Nat} (hb : b < 2 ^ 64) (hn : noneB b = false) : enc (codec utf8) whole [⟨8, b, []⟩] = (floatedB b, 0) := by
  have hs : sound (codec utf8) ⟨8, b, []⟩ 1 = 0 := sound_mk (by simp only; omega) (by simp only; omega) (by simp only; omega) (fun _ => rfl) (by simp only; omega) (fun _ c => by
    have : noneB b = true := c.1
    rw [hn] at this; cases this) (by simp only; omega) (by omega)
  have hw : written (codec utf8) ⟨8, b, []⟩ = floatedB b := by simp [written, codec]
  have hl : (floatedB b).length ≤ 4096 := by
    obtain ⟨info, h, i1, i2, i3, i4, i5⟩ := codec_shape b hb
    rw [i4, List.length_cons, be_length]
    have : 2 ^ (info - 24) ≤ 2 ^ 3 := Nat.pow_le_pow_right (by omega) (by omega)
    omega
  rw [enc_one calm hs (by simp [inside]) (by simp only; omega) (by rw [hw]; exact hl), hw]
theorem dec_float {utf8 : Bytes → Bool} {whole : List Item → Nat} (calm : Calm whole) {b : Nat} (hb : b < 2 ^ 64) (hn : noneB b = false) : dec (codec utf8) whole (floatedB b) = ([⟨8, b, []⟩], 0) :=
  dec_enc (codec_ok utf8) (by intro x hx; simp at hx; subst hx; exact ⟨hb, by simp⟩) (enc_float calm hb hn)
end Sg
