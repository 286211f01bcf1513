import Derived.Test.YtfcnbdhpdpcmgaaDoorProg
import Derived.Test.YtfcnbdhpdpcmgaaDoorValue
import Derived.Test.YtfcnbdhpdpcmgaaDoorKeepA
import Derived.WalkKit
import Derived.WalkSpells
import Derived.WalkLawsBesides
namespace Go.Proofs.YtfcnbdhpdpcmgaaDoor
open Go.RowKit

/-- a text as a value -/
abbrev str (l : Sg.Bytes) : Value := .string ⟨l.toArray⟩

/-- the cells from b, off on hold the items -/
def ItemsAt (w : World) (b off : Nat) (l : List Sg.Item) : Prop :=
  ∀ i (h : i < l.length), w.cell? ⟨b, off + i * 3, none⟩ = some (.int .i64 l[i].kind) ∧ w.cell? ⟨b, off + i * 3 + 1, none⟩ = some (.int .u64 l[i].n) ∧ w.cell? ⟨b, off + i * 3 + 2, none⟩ = some (str l[i].s)

/-- a slice that holds the items -/
def Holds (w : World) (v : Value) (l : List Sg.Item) : Prop :=
  (∃ a cap, v = .slice a 0 cap ∧ l = []) ∨ ∃ b off cap, v = .slice (some ⟨b, off, none⟩) l.length cap ∧ l.length ≤ cap ∧ ItemsAt w b off l

/-- items whose numbers fit -/
def Wf (l : List Sg.Item) : Prop := ∀ x ∈ l, -9223372036854775808 ≤ x.kind ∧ x.kind ≤ 9223372036854775807 ∧ x.n < 18446744073709551616 ∧ x.s.length ≤ 1048576

/-- WHAT Encode DOES, at lists of a bounded size. -/
def EncSaid (E : List Sg.Item → Sg.Bytes × Nat) : Prop := ∀ (l : List Sg.Item) (w : World) (v : Value), Holds w v l → Wf l → l.length ≤ 1048576 →
  Calls Tryd.prog 7 #[v] w fun e w' => e = .returned (.tuple #[str (E l).1, .int .i64 (E l).2]) ∧ Below w.heap.size w w'

/-- WHAT Decode DOES, at texts of a bounded size: its list is new memory. -/
def DecSaid (D : Sg.Bytes → List Sg.Item × Nat) : Prop := ∀ (s : Sg.Bytes) (w : World), s.length ≤ 2097152 →
  Calls Tryd.prog 8 #[str s] w fun e w' => ∃ v, e = .returned (.tuple #[v, .int .i64 (D s).2]) ∧ Below w.heap.size w w' ∧ Holds w' v (D s).1

/-- all old cells, all old marks read as before -/
theorem bcell {W w1 : World} (hb : Below W.heap.size W w1) : (∀ b o, b < W.heap.size → w1.cell? ⟨b, o, none⟩ = W.cell? ⟨b, o, none⟩) ∧ (∀ b o, b < W.heap.size → w1.frozen? ⟨b, o, none⟩ = W.frozen? ⟨b, o, none⟩) :=
  ⟨fun b o h => hb.cell (p := ⟨b, o, none⟩) h, fun b o h => hb.frozen (p := ⟨b, o, none⟩) h⟩
theorem Holds.nil (w : World) (a : Option Addr) (cap : Nat) : Holds w (.slice a 0 cap) [] := .inl ⟨a, cap, rfl, rfl⟩
/-- one item, laid just now -/
theorem Holds.one (w : World) (k : Int) (n : Nat) (s : Sg.Bytes) (t : TypeId) : Holds (w.alloc (.cells #[.int .i64 k, .int .u64 n, str s] t)) (.slice (some ⟨w.heap.size, 0, none⟩) 1 1) [⟨k, n, s⟩] := by
  refine .inr ⟨w.heap.size, 0, 1, rfl, by simp, ?_⟩
  intro i h
  have e : i = 0 := by simpa using h
  subst e
  have hh : (w.alloc (.cells #[.int .i64 k, .int .u64 n, str s] t)).heap[w.heap.size]? = some (.cells #[.int .i64 k, .int .u64 n, str s] t) := by
    show (w.heap.push _)[w.heap.size]? = _
    simp
  refine ⟨?_, ?_, ?_⟩ <;> (unfold World.cell?; simp only [hh]; rfl)
theorem Holds.one_at (w : World) (k : Int) (n : Nat) (s : Sg.Bytes) (t : TypeId) (b : Nat) (hb : w.heap.size = b) : Holds (w.alloc (.cells #[.int .i64 k, .int .u64 n, str s] t)) (.slice (some ⟨b, 0, none⟩) 1 1) [⟨k, n, s⟩] := by
  subst hb; exact Holds.one w k n s t
theorem Wf.one {k : Int} {n : Nat} {s : Sg.Bytes} (h0 : -9223372036854775808 ≤ k) (h1 : k ≤ 9223372036854775807) (h2 : n < 18446744073709551616) (h3 : s.length ≤ 1048576) : Wf [⟨k, n, s⟩] := by
  intro x hx
  simp only [List.mem_singleton] at hx
  subst hx
  exact ⟨h0, h1, h2, h3⟩
theorem ba_append (a b : Sg.Bytes) : ((⟨a.toArray⟩ : ByteArray) ++ ⟨b.toArray⟩) = ⟨(a ++ b).toArray⟩ := by
  apply ByteArray.ext
  simp
theorem str_append (a b : Sg.Bytes) : Value.string ((⟨a.toArray⟩ : ByteArray) ++ ⟨b.toArray⟩) = str (a ++ b) := by rw [ba_append]
end Go.Proofs.YtfcnbdhpdpcmgaaDoor
