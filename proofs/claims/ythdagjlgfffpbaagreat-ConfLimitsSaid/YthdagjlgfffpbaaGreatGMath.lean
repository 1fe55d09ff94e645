/-
  Layer 5 (conf): records as plain data, their keys, the order of keys, sorting by insertion, the normal form: plain mathematics. By the verifier.
-/
import Derived.Test.YthdagjlgfffpbaaGreatNMath
import Derived.Test.YthdagjlgfffpbaaGreatNStr
set_option linter.unusedVariables false
namespace Go.Proofs.YthdagjlgfffpbaaGreat

structure PartR where
  id : Nat
  name : ByteArray
  period : Nat
  dur : Nat
structure WinR where
  start : Nat
  len : Nat
  part : Nat
structure RegR where
  base : Nat
  size : Nat
  part : Nat
  rights : Nat
  shared : Bool
structure PortR where
  id : Nat
  part : Nat
  name : ByteArray
  out : Bool
  que : Bool
  size : Nat
structure ChanR where
  id : Nat
  src : Nat
  dests : List Nat
structure ConfR where
  frame : Nat
  ps : List PartR
  ws : List WinR
  rs : List RegR
  ts : List PortR
  cs : List ChanR

/-- The numbers that a field may have. -/
def PartR.ok (p : PartR) : Prop := p.id < 65536 ∧ p.name.size ≤ 9223372036854775807 ∧ p.period < 18446744073709551616 ∧ p.dur < 18446744073709551616
def WinR.ok (p : WinR) : Prop := p.start < 18446744073709551616 ∧ p.len < 18446744073709551616 ∧ p.part < 65536
def RegR.ok (p : RegR) : Prop := p.base < 18446744073709551616 ∧ p.size < 18446744073709551616 ∧ p.part < 65536 ∧ p.rights < 256
def PortR.ok (p : PortR) : Prop := p.id < 65536 ∧ p.part < 65536 ∧ p.name.size ≤ 9223372036854775807 ∧ p.size < 4294967296
def ChanR.ok (p : ChanR) : Prop := p.id < 65536 ∧ p.src < 65536 ∧ ∀ x ∈ p.dests, x < 65536

def bitN (b : Bool) : Nat := if b then 1 else 0
/-- The bytes of a string as numbers, with 0 at the end. -/
def textN (s : ByteArray) : List Nat := (bytesOf s).map (· + 1) ++ [0]
def PartR.key (p : PartR) : List Nat := p.id :: (textN p.name ++ [p.period, p.dur])
def WinR.key (p : WinR) : List Nat := [p.start, p.len, p.part]
def RegR.key (p : RegR) : List Nat := [p.base, p.size, p.part, p.rights, bitN p.shared]
def PortR.key (p : PortR) : List Nat := p.id :: p.part :: (textN p.name ++ [bitN p.out, bitN p.que, p.size])
def ChanR.key (p : ChanR) : List Nat := p.id :: p.src :: p.dests

def ConfR.keys (c : ConfR) (s : Int) : List (List Nat) :=
  if s = 1 then c.ps.map PartR.key else if s = 2 then c.ws.map WinR.key else if s = 3 then c.rs.map RegR.key else if s = 4 then c.ts.map PortR.key else if s = 5 then c.cs.map ChanR.key else []

/-- Does a list of numbers come before another one? -/
def lessN : List Nat → List Nat → Bool
  | [], [] => false
  | [], _ :: _ => true
  | _ :: _, [] => false
  | a :: x, b :: y => if a = b then lessN x y else decide (a < b)

theorem lessN_eq : ∀ (x y : List Nat), lessN x y = decide (x < y)
  | [], [] => by simp [lessN]
  | _ :: _, [] => by simp [lessN]
  | [], _ :: _ => by simp [lessN]
  | a :: x, b :: y => by
    rw [lessN, lessN_eq x y]
    simp only [List.cons_lt_cons_iff]
    by_cases h1 : a = b
    · subst h1
      simp
    · simp [h1]

theorem lessN_same {x y : List Nat} (h1 : lessN x y = false) (h2 : lessN y x = false) : x = y := by
  rw [lessN_eq, decide_eq_false_iff_not] at h1 h2
  exact List.le_antisymm (List.not_lt.1 h2) (List.not_lt.1 h1)
theorem lessN_irrefl (x : List Nat) : lessN x x = false := by
  rw [lessN_eq, decide_eq_false_iff_not]
  exact List.lt_irrefl x

/-- The loop of less. -/
theorem lessN_take : ∀ (k : Nat) (x y : List Nat), k ≤ x.length → k ≤ y.length → x.take k = y.take k → lessN x y = lessN (x.drop k) (y.drop k)
  | 0, x, y, _, _, _ => rfl
  | k + 1, [], y, h, _, _ => by simp at h
  | k + 1, a :: x, [], _, h, _ => by simp at h
  | k + 1, a :: x, b :: y, hx, hy, h => by
    simp only [List.take_succ_cons, List.cons.injEq] at h
    obtain ⟨rfl, h⟩ := h
    rw [lessN, if_pos rfl]
    exact lessN_take k x y (by simpa using hx) (by simpa using hy) h
theorem lessN_at {k : Nat} {x y : List Nat} (hx : k < x.length) (hy : k < y.length) (h : x.take k = y.take k) (hne : x.getD k 0 ≠ y.getD k 0) : lessN x y = decide (x.getD k 0 < y.getD k 0) := by
  rw [lessN_take k x y (by omega) (by omega) h, List.drop_eq_getElem_cons hx, List.drop_eq_getElem_cons hy]
  have e1 : x.getD k 0 = x[k] := by simp [List.getD, hx]
  have e2 : y.getD k 0 = y[k] := by simp [List.getD, hy]
  rw [e1, e2] at hne ⊢
  rw [lessN, if_neg hne]
theorem lessN_end {k : Nat} {x y : List Nat} (hx : k ≤ x.length) (hy : k ≤ y.length) (hk : k = x.length ∨ k = y.length) (h : x.take k = y.take k) : lessN x y = decide (x.length < y.length) := by
  rw [lessN_take k x y hx hy h]
  rcases hk with rfl | rfl
  · rw [List.drop_length]
    cases hd : y.drop x.length with
    | nil =>
      have : y.length ≤ x.length := by simpa using hd
      rw [lessN, decide_eq_false (by omega)]
    | cons b r =>
      have : ¬ y.length ≤ x.length := fun hle => by rw [List.drop_of_length_le hle] at hd; cases hd
      rw [lessN, decide_eq_true (by omega)]
  · rw [List.drop_length]
    cases hd : x.drop y.length with
    | nil => rw [lessN, decide_eq_false (by omega)]
    | cons b r => rw [lessN, decide_eq_false (by omega)]

/-- How many records a section has. -/
def ConfR.links (c : ConfR) : Nat := (c.cs.map fun d => d.dests.length).sum
def ConfR.count (c : ConfR) (s : Nat) : Nat :=
  if s = 1 then c.ps.length else if s = 2 then c.ws.length else if s = 3 then c.rs.length else if s = 4 then c.ts.length else if s = 5 then c.cs.length else if s = 6 then c.links else 0

/-- Has a configuration few records with short names? -/
def ConfR.few (c : ConfR) : Bool :=
  (c.ps.all fun p => decide (p.name.size ≤ 100)) && ((c.ts.all fun p => decide (p.name.size ≤ 100)) && decide (c.ps.length + c.ws.length + c.rs.length + c.ts.length + c.cs.length + c.links ≤ 120))

end Go.Proofs.YthdagjlgfffpbaaGreat
