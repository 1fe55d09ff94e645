/-
  Layer 3 (buf): a builder beside bytes of the reference, in memory. By the verifier.
-/
import Derived.Test.YtajkneekehkhbaaBSet
import Derived.Test.YtajkneekehkhbaaMConcat
set_option linter.unusedVariables false
namespace Go.Proofs.Ytajkneekehkhbaa
open Go.RowKit

/-- A builder with the bytes lb, a variable that holds the bytes l, apart from each other and from what was there. -/
structure Inv (N : Nat) (w : World) (B P : Nat) (lb l : List Nat) (g : Option Nat) (A : Option Addr) (c : Nat) : Prop where
  bld : Bld w B g lb
  row : Row w P 22 1 (fun _ => .slice A l.length c)
  bys : Bys w A l
  cap : l.length ≤ c
  apA : ∀ a, A = some a → ¬ SB B g a.block ∧ a.block ≠ P
  apP : ¬ SB B g P
  loB : N ≤ B
  loP : N ≤ P
  log : ∀ k, g = some k → N ≤ k
  low : N ≤ w.heap.size

theorem Inv.below {N : Nat} {w w' : World} {B P : Nat} {lb l : List Nat} {g : Option Nat} {A : Option Addr} {c : Nat} (h : Inv N w B P lb l g A c) (hb : Below w.heap.size w w') : Inv N w' B P lb l g A c :=
  ⟨h.bld.below hb, (Turn.of_below (S := fun _ => False) hb).row h.row id, h.bys.below (Nat.le_refl _) hb, h.cap, h.apA, h.apP, h.loB, h.loP, h.log, Nat.le_trans h.low hb.size⟩

theorem Bys.lt {w : World} {a : Addr} {l : List Nat} (h : Bys w (some a) l) (h0 : l ≠ []) : a.block < w.heap.size := by
  obtain ⟨b, o, hA, hb, -⟩ := h.1 0 (by cases l with | nil => exact absurd rfl h0 | cons _ _ => simp)
  injection hA with hA
  subst hA
  exact hb

theorem Inv.moved {N : Nat} {w w' : World} {B P : Nat} {lb l lb' : List Nat} {g g' : Option Nat} {A : Option Addr} {c : Nat} (h : Inv N w B P lb l g A c) (hA : ∀ a, A = some a → a.block < w.heap.size) (hm : Moved w w' B g g' lb') : Inv N w' B P lb' l g' A c :=
  ⟨hm.bld, hm.turn.row h.row h.apP, hm.bys h.bys (fun a ha => (h.apA a ha).1), h.cap, fun a ha => ⟨hm.apart (hA a ha) (h.apA a ha).1, (h.apA a ha).2⟩, hm.apart h.row.lt h.apP, h.loB, h.loP, hm.own h.low h.log, Nat.le_trans h.low hm.turn.size⟩

theorem Inv.movedBelow {N : Nat} {w w' : World} {B P : Nat} {lb l lb' : List Nat} {g g' : Option Nat} {A : Option Addr} {c : Nat} (h : Inv N w B P lb l g A c) (hm : Moved w w' B g g' lb') : Below N w w' := hm.below h.low h.loB h.log

/-- The variable is written: bytes that a call has made since. -/
theorem Inv.put {N : Nat} {w2 w3 : World} {B P : Nat} {lb l l' : List Nat} {g : Option Nat} {A A' : Option Addr} {c c' : Nat} (h : Inv N w2 B P lb l g A c) (hb : Below w2.heap.size w2 w3) (ho : OwnB w3 w2.heap.size (.slice A' l'.length c') l') (hl : Bs l') (hm : l'.length ≤ maxLen) :
    Inv N (w3.setCell ⟨P, 0, none⟩ (.slice A' l'.length c')) B P lb l' g A' c' := by
  have h3 := h.below hb
  obtain ⟨A1, c1, hv, hy, hc, ha⟩ := ho.shape hl hm
  injection hv with hA hn hc1
  subst hA hc1
  have ht : Turn (fun k => k = P) w3 (w3.setCell ⟨P, 0, none⟩ (.slice A' l'.length c')) := (Turn.refl (fun k => k = P) w3).setCell rfl _
  have hP := h.row.lt
  have hPb : ∀ a, A' = some a → a.block ≠ P := fun a haa e => by have := (ha a haa).2; omega
  refine ⟨h3.bld.turn ht (fun e => h.apP (.inl e.symm)) (fun k hk e => h.apP (.inr (by rw [hk, e]))), ?_, ht.bys hy (fun a haa => hPb a haa), hc, fun a haa => ⟨?_, hPb a haa⟩, h.apP, h.loB, h.loP, h.log, Nat.le_trans h3.low ht.size⟩
  · exact (h3.row.set (i := 0) (by omega) _).congr fun i hi => by rw [if_pos (by omega)]
  · have h1 := (ha a haa).2
    have hBl := h.bld.lt
    rintro (e | e)
    · omega
    · have := hBl.2 _ e
      omega

theorem Inv.putBelow {N : Nat} {w2 w3 : World} {B P : Nat} {lb l : List Nat} {g : Option Nat} {A : Option Addr} {c : Nat} {v : Value} (h : Inv N w2 B P lb l g A c) (hb : Below w2.heap.size w2 w3) : Below N w2 (w3.setCell ⟨P, 0, none⟩ v) := by
  have := hb.mono h.low
  exact this.setCell h.loP _

end Go.Proofs.Ytajkneekehkhbaa
