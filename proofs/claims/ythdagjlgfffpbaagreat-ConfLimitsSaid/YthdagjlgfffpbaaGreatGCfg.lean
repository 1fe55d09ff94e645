/-
  Layer 5 (conf): a configuration in memory. By the verifier.
-/
import Derived.Test.YthdagjlgfffpbaaGreatMRow
import Derived.Test.YthdagjlgfffpbaaGreatGMath
set_option linter.unusedVariables false
namespace Go.Proofs.YthdagjlgfffpbaaGreat
open Go.RowKit

def U16 (n : Nat) : Value := .int .u16 (n : Int)
def U64 (n : Nat) : Value := .int .u64 (n : Int)
def partV (p : PartR) : List Value := [.int .u16 (p.id : Int), .string p.name, .int .u64 (p.period : Int), .int .u64 (p.dur : Int)]
def winV (p : WinR) : List Value := [.int .u64 (p.start : Int), .int .u64 (p.len : Int), .int .u16 (p.part : Int)]
def regV (p : RegR) : List Value := [.int .u64 (p.base : Int), .int .u64 (p.size : Int), .int .u16 (p.part : Int), .int .u8 (p.rights : Int), .bool p.shared]
def portV (p : PortR) : List Value := [.int .u16 (p.id : Int), .int .u16 (p.part : Int), .string p.name, .bool p.out, .bool p.que, .int .u32 (p.size : Int)]
/-- A channel with the slice that holds its destinations. -/
structure ChanC where
  r : ChanR
  A : Option Addr
  cap : Nat
def chanV (x : ChanC) : List Value := [.int .u16 (x.r.id : Int), .int .u16 (x.r.src : Int), .slice x.A x.r.dests.length x.cap]

/-- Where the lists of a configuration lie. -/
structure CfgQ where
  A1 : Option Addr
  c1 : Nat
  A2 : Option Addr
  c2 : Nat
  A3 : Option Addr
  c3 : Nat
  A4 : Option Addr
  c4 : Nat
  A5 : Option Addr
  c5 : Nat
  ch : List ChanC

def cfgV (c : ConfR) (q : CfgQ) : Value := .agg #[.int .u64 (c.frame : Int), .slice q.A1 c.ps.length q.c1, .slice q.A2 c.ws.length q.c2, .slice q.A3 c.rs.length q.c3, .slice q.A4 c.ts.length q.c4, .slice q.A5 c.cs.length q.c5]

/-- A slice of records. -/
structure Recs {α : Type} (w : World) (A : Option Addr) (cap : Nat) (l : List α) (f : α → List Value) : Prop where
  cells : Cells w A (l.flatMap f)
  nil : A = none → cap = 0
  fit : l.length ≤ cap
  max : l.length ≤ 9223372036854775807

/-- The destinations of a channel. -/
structure DestsIn (w : World) (x : ChanC) : Prop where
  cells : Cells w x.A (x.r.dests.map U16)
  nil : x.A = none → x.cap = 0
  fit : x.r.dests.length ≤ x.cap
  max : x.r.dests.length ≤ 9223372036854775807

/-- A configuration in memory. -/
structure CfgIn (w : World) (c : ConfR) (q : CfgQ) : Prop where
  ps : Recs w q.A1 q.c1 c.ps partV
  ws : Recs w q.A2 q.c2 c.ws winV
  rs : Recs w q.A3 q.c3 c.rs regV
  ts : Recs w q.A4 q.c4 c.ts portV
  cs : Recs w q.A5 q.c5 q.ch chanV
  ch : q.ch.map (·.r) = c.cs
  ds : ∀ x ∈ q.ch, DestsIn w x
  frame : c.frame < 18446744073709551616
  okp : ∀ p ∈ c.ps, p.ok
  okw : ∀ p ∈ c.ws, p.ok
  okr : ∀ p ∈ c.rs, p.ok
  okt : ∀ p ∈ c.ts, p.ok
  okc : ∀ p ∈ c.cs, p.ok

theorem Recs.below {α : Type} {w w' : World} {A : Option Addr} {cap : Nat} {l : List α} {f : α → List Value} (h : Recs w A cap l f) {B : Nat} (hB : w.heap.size ≤ B) (hb : Below B w w') : Recs w' A cap l f := ⟨h.cells.below hB hb, h.nil, h.fit, h.max⟩
theorem DestsIn.below {w w' : World} {x : ChanC} (h : DestsIn w x) {B : Nat} (hB : w.heap.size ≤ B) (hb : Below B w w') : DestsIn w' x := ⟨h.cells.below hB hb, h.nil, h.fit, h.max⟩
theorem CfgIn.below {w w' : World} {c : ConfR} {q : CfgQ} (h : CfgIn w c q) {B : Nat} (hB : w.heap.size ≤ B) (hb : Below B w w') : CfgIn w' c q :=
  ⟨h.ps.below hB hb, h.ws.below hB hb, h.rs.below hB hb, h.ts.below hB hb, h.cs.below hB hb, h.ch, fun x hx => (h.ds x hx).below hB hb, h.frame, h.okp, h.okw, h.okr, h.okt, h.okc⟩

theorem CfgIn.len5 {w : World} {c : ConfR} {q : CfgQ} (h : CfgIn w c q) : q.ch.length = c.cs.length := by rw [← h.ch, List.length_map]

theorem flat_len {α : Type} (f : α → List Value) (k : Nat) (hf : ∀ x, (f x).length = k) (l : List α) : (l.flatMap f).length = l.length * k := by
  induction l with
  | nil => simp
  | cons a l ih => rw [List.flatMap_cons, List.length_append, hf, ih, List.length_cons, Nat.add_mul, Nat.one_mul, Nat.add_comm]

theorem flat_at {α : Type} (f : α → List Value) (k : Nat) (hf : ∀ x, (f x).length = k) : ∀ (l : List α) (i : Nat) (hi : i < l.length) (j : Nat), j < k → (l.flatMap f)[i * k + j]? = (f l[i])[j]?
  | [], i, hi, _, _ => absurd hi (by simp)
  | a :: l, 0, hi, j, hj => by
    rw [List.flatMap_cons, Nat.zero_mul, Nat.zero_add, List.getElem?_append_left (by rw [hf]; exact hj)]
    rfl
  | a :: l, i + 1, hi, j, hj => by
    rw [List.flatMap_cons, List.getElem?_append_right (by rw [hf, Nat.add_mul, Nat.one_mul]; omega), hf]
    have e : (i + 1) * k + j - k = i * k + j := by rw [Nat.add_mul, Nat.one_mul]; omega
    rw [e, flat_at f k hf l i (by simpa using hi) j hj]
    rfl

/-- The cells of record i. -/
theorem Recs.at {α : Type} {w : World} {A : Option Addr} {cap : Nat} {l : List α} {f : α → List Value} (h : Recs w A cap l f) (k : Nat) (hf : ∀ x, (f x).length = k) (hk : 0 < k) {i : Nat} (hi : i < l.length) :
    ∃ b o, A = some ⟨b, o, none⟩ ∧ b < w.heap.size ∧ ∀ (j : Nat) v, (f l[i])[j]? = some v → w.cell? ⟨b, o + i * k + j, none⟩ = some v := by
  have h0 : 0 < (l.flatMap f).length := by rw [flat_len f k hf]; exact Nat.mul_pos (by omega) hk
  obtain ⟨b, o, rfl, hb, hc⟩ := h.cells.some h0
  refine ⟨b, o, rfl, hb, fun j v hv => ?_⟩
  have hj : j < k := by
    rcases Nat.lt_or_ge j k with hj | hj
    · exact hj
    · rw [List.getElem?_eq_none (by rw [hf]; exact hj)] at hv; cases hv
  have := hc (i * k + j) v (by rw [flat_at f k hf l i hi j hj]; exact hv)
  rw [Nat.add_assoc]
  exact this

theorem partV_len (p : PartR) : (partV p).length = 4 := rfl
theorem winV_len (p : WinR) : (winV p).length = 3 := rfl
theorem regV_len (p : RegR) : (regV p).length = 5 := rfl
theorem portV_len (p : PortR) : (portV p).length = 6 := rfl
theorem chanV_len (p : ChanC) : (chanV p).length = 3 := rfl

/-- What a channel's record says of the configuration. -/
theorem CfgIn.chan {w : World} {c : ConfR} {q : CfgQ} (h : CfgIn w c q) {i : Nat} (hi : i < c.cs.length) : ∃ hq : i < q.ch.length, (q.ch[i]).r = c.cs[i] := by
  have hl := h.len5
  refine ⟨by omega, ?_⟩
  have e := h.ch
  have : (q.ch.map (·.r))[i]? = c.cs[i]? := by rw [e]
  rw [List.getElem?_map, List.getElem?_eq_getElem (show i < q.ch.length by omega), List.getElem?_eq_getElem hi] at this
  simpa using this

end Go.Proofs.YthdagjlgfffpbaaGreat
