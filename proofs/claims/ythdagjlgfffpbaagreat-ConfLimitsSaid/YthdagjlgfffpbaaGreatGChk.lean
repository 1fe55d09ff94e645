/-
  Layer 5 (conf): the reference's Check and Within. By the verifier.
-/
import Derived.Test.YthdagjlgfffpbaaGreatGFew
import Derived.BigQuiet
set_option linter.unusedVariables false
namespace Go.Proofs.YthdagjlgfffpbaaGreat
open Go.RowKit

/-- The first of the first n numbers that has a property. -/
def firstTo (p : Nat → Bool) : Nat → Option Nat
  | 0 => none
  | k + 1 => match firstTo p k with
    | some i => some i
    | none => if p k then some k else none

theorem firstTo_none {p : Nat → Bool} : ∀ {n : Nat}, (∀ j, j < n → p j = false) → firstTo p n = none
  | 0, _ => rfl
  | n + 1, h => by
    unfold firstTo
    rw [firstTo_none (fun j hj => h j (by omega)), h n (by omega)]
    rfl
theorem firstTo_some {p : Nat → Bool} {k : Nat} (hk : p k = true) (hb : ∀ j, j < k → p j = false) : ∀ {n : Nat}, k < n → firstTo p n = some k
  | 0, h => absurd h (by omega)
  | n + 1, h => by
    unfold firstTo
    rcases Nat.lt_or_ge k n with h1 | h1
    · rw [firstTo_some hk hb h1]
    · obtain rfl : k = n := by omega
      rw [firstTo_none hb, hk]
      rfl

def cntN (c : ConfR) (s : Nat) : Int :=
  if s = 1 then (c.ps.length : Int) else if s = 2 then (c.ws.length : Int) else if s = 3 then (c.rs.length : Int) else if s = 4 then (c.ts.length : Int) else if s = 5 then (c.cs.length : Int) else if s = 6 then wrap64 (c.links : Int) else 0

def overB (c : ConfR) (j : Nat) : Bool := decide (1 ≤ j) && decide (limV (j : Int) < cntN c j)
def badP (c : ConfR) (i : Nat) : Bool := match c.ps[i]? with
  | some p => !nameB (bytesOf p.name)
  | none => false
def badT (c : ConfR) (i : Nat) : Bool := match c.ts[i]? with
  | some p => !nameB (bytesOf p.name)
  | none => false
def badR (c : ConfR) (i : Nat) : Bool := match c.rs[i]? with
  | some p => decide (7 < p.rights)
  | none => false

/-- What Check answers. -/
def checkV (c : ConfR) : Int × Int × Int :=
  match firstTo (overB c) 7 with
  | some j => (7, (j : Int), limV (j : Int))
  | none => match firstTo (badP c) c.ps.length with
    | some i => (6, 1, (i : Int))
    | none => match firstTo (badT c) c.ts.length with
      | some i => (6, 4, (i : Int))
      | none => match firstTo (badR c) c.rs.length with
        | some i => (15, 3, (i : Int))
        | none => (0, 0, 0)

theorem badP_at {c : ConfR} {k : Nat} (h : k < c.ps.length) : badP c k = !nameB (bytesOf c.ps[k].name) := by
  unfold badP
  rw [List.getElem?_eq_getElem h]
theorem badT_at {c : ConfR} {k : Nat} (h : k < c.ts.length) : badT c k = !nameB (bytesOf c.ts[k].name) := by
  unfold badT
  rw [List.getElem?_eq_getElem h]
theorem badR_at {c : ConfR} {k : Nat} (h : k < c.rs.length) : badR c k = decide (7 < c.rs[k].rights) := by
  unfold badR
  rw [List.getElem?_eq_getElem h]

theorem CntIn.at {W : World} {B : Nat} {c : ConfR} (h : CntIn W B c) {k : Nat} (hk : k ≤ 6) : W.cell? ⟨B, k, none⟩ = some (.int .i64 (cntN c k)) := by
  have hc : k = 0 ∨ k = 1 ∨ k = 2 ∨ k = 3 ∨ k = 4 ∨ k = 5 ∨ k = 6 := by omega
  rcases hc with rfl | rfl | rfl | rfl | rfl | rfl | rfl
  · have e : cntN c 0 = 0 := by simp [cntN]
    rw [e]; exact h.n0
  · have e : cntN c 1 = (c.ps.length : Int) := by simp [cntN]
    rw [e]; exact h.n1
  · have e : cntN c 2 = (c.ws.length : Int) := by simp [cntN]
    rw [e]; exact h.n2
  · have e : cntN c 3 = (c.rs.length : Int) := by simp [cntN]
    rw [e]; exact h.n3
  · have e : cntN c 4 = (c.ts.length : Int) := by simp [cntN]
    rw [e]; exact h.n4
  · have e : cntN c 5 = (c.cs.length : Int) := by simp [cntN]
    rw [e]; exact h.n5
  · have e : cntN c 6 = wrap64 (c.links : Int) := by simp [cntN]
    rw [e]; exact h.n6

theorem CntIn.drewN {W : World} {B : Nat} {c : ConfR} (h : CntIn W B c) (m : Nat) : CntIn (W.drewN m) B c := ⟨h.n0, h.n1, h.n2, h.n3, h.n4, h.n5, h.n6⟩

theorem over0 (c : ConfR) : overB c 0 = false := rfl
theorem over_at (c : ConfR) {k : Nat} (h : 1 ≤ k) : overB c k = decide (limV (k : Int) < cntN c k) := by
  unfold overB
  rw [decide_eq_true h, Bool.true_and]

theorem quiet_left5 {P : Program} {f : FuncId} {args : Array Value} {w : World} {n : Nat} {v : Value}
    (h : Calls P f args (w.drewN n) fun e w' => e = .returned v ∧ w.drewN n = w') : Calls P f args (w.drewN n) fun e w'' => e = .returned v ∧ ∃ m, w'' = w.drewN m :=
  h.mono fun _ _ ⟨he, hm⟩ => ⟨he, n, hm.symm⟩

/-- Three numbers are handed back. -/
def ThreeIs (r : Int × Int × Int) (e : Ending) : Prop := e = .returned (.tuple #[.int .i64 r.1, .int .i64 r.2.1, .int .i64 r.2.2])

/-- Check behind the limits: from a world that differs from the boxed one by draws and new blocks. -/
structure ChkW (w W : World) (c : ConfR) (q : CfgQ) : Prop where
  box : BoxIn W w.heap.size c q
  cfg : CfgIn W c q
  below : Below w.heap.size w W
theorem ChkW.drewN {w W : World} {c : ConfR} {q : CfgQ} (h : ChkW w W c q) (m : Nat) : ChkW w (W.drewN m) c q :=
  ⟨h.box.below (below_drewN (Below.refl _ _) m), h.cfg.below (Nat.le_refl _) (below_drewN (Below.refl _ _) m), below_drewN h.below m⟩


end Go.Proofs.YthdagjlgfffpbaaGreat
