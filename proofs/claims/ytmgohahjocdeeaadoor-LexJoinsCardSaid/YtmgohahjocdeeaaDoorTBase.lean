/-
  Layer 6 (lex): numbers of texts, tokens and faults as values, a cursor in memory. By the verifier.
-/
import Derived.Test.YtmgohahjocdeeaaDoorTMath
import Derived.Test.YtmgohahjocdeeaaDoorNScn2
import Derived.Test.YtmgohahjocdeeaaDoorFormLaws
set_option linter.unusedVariables false
namespace Go.Proofs.YtmgohahjocdeeaaDoor
open Go.RowKit

/-- The number that a text denotes. -/
def numV (t : List Nat) : Option Int := parseO (t.map UInt8.ofNat)

theorem pnum_ok (sv : ByteArray) (t : List Nat) (hs : Str sv t) (hm : t.length ≤ 140737488355328) (w : World) (he : Env w) :
    Calls Tryd.prog 75 #[.string sv] w fun e w' => FoldRes (numV t) e ∧ Below w.heap.size w w' := by
  have h := parse_ok (t.map UInt8.ofNat) (by simpa using hm) w he
  rw [hs.1, strB_mk]
  exact h

theorem rnum_ok (sv : ByteArray) (t : List Nat) (hs : Str sv t) (hm : t.length ≤ 140737488355328) (w : World) :
    Calls Tryd.prog 28 #[.string sv] w fun e w' => FoldRes (numV t) e ∧ Below w.heap.size w w' := by
  have h := rparse_ok (t.map UInt8.ofNat) (by simpa using hm) w
  rw [parse_same] at h
  rw [hs.1, strB_mk]
  exact h

/-- A token as a value. -/
def tokA (t : Tok) : Array Value := #[.int .i64 (t.kind : Int), .string (strB t.text), .int .u64 t.val, .int .i64 (t.line : Int), .int .i64 (t.col : Int)]
/-- A fault as a value. -/
def faultA (c a b : Nat) : Array Value := #[.int .i64 (c : Int), .int .i64 (a : Int), .int .i64 (b : Int)]

/-- The cells of a cursor. -/
def curF (p : Nat × Nat) (s : ByteArray) (k : Nat) : Nat → Value := fun i => if i = 0 then .int .i64 (p.1 : Int) else if i = 1 then .int .i64 (p.2 : Int) else if i = 2 then .string s else .int .i64 (k : Int)
/-- A cursor: its place, its text, its offset. -/
def Cur (W : World) (B : Nat) (p : Nat × Nat) (s : ByteArray) (k : Nat) : Prop := Row W B 61 4 (curF p s k)

theorem Cur.c0 {W : World} {B : Nat} {p : Nat × Nat} {s : ByteArray} {k : Nat} (h : Cur W B p s k) : W.cell? ⟨B, 0, none⟩ = some (.int .i64 (p.1 : Int)) := Row.cell h (i := 0) (by omega)
theorem Cur.c1 {W : World} {B : Nat} {p : Nat × Nat} {s : ByteArray} {k : Nat} (h : Cur W B p s k) : W.cell? ⟨B, 1, none⟩ = some (.int .i64 (p.2 : Int)) := Row.cell h (i := 1) (by omega)
theorem Cur.c2 {W : World} {B : Nat} {p : Nat × Nat} {s : ByteArray} {k : Nat} (h : Cur W B p s k) : W.cell? ⟨B, 2, none⟩ = some (.string s) := Row.cell h (i := 2) (by omega)
theorem Cur.c3 {W : World} {B : Nat} {p : Nat × Nat} {s : ByteArray} {k : Nat} (h : Cur W B p s k) : W.cell? ⟨B, 3, none⟩ = some (.int .i64 (k : Int)) := Row.cell h (i := 3) (by omega)
theorem Cur.set0 {W : World} {B : Nat} {p : Nat × Nat} {s : ByteArray} {k : Nat} (h : Cur W B p s k) (x : Nat) : Cur (W.setCell ⟨B, 0, none⟩ (.int .i64 (x : Int))) B (x, p.2) s k :=
  (Row.set h (i := 0) (by omega) _).congr fun i hi => by unfold curF; by_cases h0 : i = 0 <;> simp [h0]
theorem Cur.set1 {W : World} {B : Nat} {p : Nat × Nat} {s : ByteArray} {k : Nat} (h : Cur W B p s k) (x : Nat) : Cur (W.setCell ⟨B, 1, none⟩ (.int .i64 (x : Int))) B (p.1, x) s k :=
  (Row.set h (i := 1) (by omega) _).congr fun i hi => by unfold curF; by_cases h0 : i = 1 <;> simp [h0]
theorem Cur.set3 {W : World} {B : Nat} {p : Nat × Nat} {s : ByteArray} {k : Nat} (h : Cur W B p s k) (x : Nat) : Cur (W.setCell ⟨B, 3, none⟩ (.int .i64 (x : Int))) B p s x :=
  (Row.set h (i := 3) (by omega) _).congr fun i hi => by
    have : i = 0 ∨ i = 1 ∨ i = 2 ∨ i = 3 := by omega
    unfold curF
    rcases this with h0 | h0 | h0 | h0 <;> simp [h0]
theorem Cur.lt {W : World} {B : Nat} {p : Nat × Nat} {s : ByteArray} {k : Nat} (h : Cur W B p s k) : B < W.heap.size := Row.lt h
theorem Cur.below {W W' : World} {B : Nat} {p : Nat × Nat} {s : ByteArray} {k : Nat} (h : Cur W B p s k) (hb : Below W.heap.size W W') : Cur W' B p s k := by
  unfold Cur Row at h ⊢
  rw [hb.block B (Row.lt h)]
  exact h

/-- The package-level variables stand, and the cursor is none of their blocks. -/
def EnvAt (B : Nat) (W : World) : Prop := ∃ w0, Env w0 ∧ w0.heap.size ≤ B ∧ Below w0.heap.size w0 W
theorem EnvAt.env {B : Nat} {W : World} (h : EnvAt B W) : Env W := by
  obtain ⟨w0, h1, -, h3⟩ := h
  exact h1.below h3
theorem EnvAt.sole {B : Nat} {W W' : World} (h : EnvAt B W) (hs : Sole B W W') : EnvAt B W' := by
  obtain ⟨w0, h1, h2, h3⟩ := h
  exact ⟨w0, h1, h2, h3.trans (hs.below h2 h3.size)⟩
theorem EnvAt.new {w W : World} (h : Env w) (hb : Below w.heap.size w W) : EnvAt w.heap.size W := ⟨w, h, Nat.le_refl _, hb⟩

end Go.Proofs.YtmgohahjocdeeaaDoor
